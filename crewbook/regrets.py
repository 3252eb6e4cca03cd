"""Regrets: the answers after which a calm situation is not calm any more."""

from crewbook.crewsets import check_people
from crewbook.lossmoves import calm_situations, loss_moves


def regrets(crews, present, crew, width, *, kept=()):
    """Yield all shortest ways to a regret, in ascending order."""
    check_people(crews, present, crew, kept)
    moves = loss_moves(crews, present, width, kept)
    steps = regret_steps(moves)
    start = (present, crew)
    waiting = [((), start)] if steps.get(start, 0) > 0 else []
    while waiting:
        way, situation = waiting.pop()
        if steps[situation] == 0:
            yield way
        else:
            # The least way is taken next, so that the results ascend.
            waiting.extend(longer_ways(moves, steps, way, situation)[::-1])


def regret_steps(moves):
    """Return how many losses lead at least to a regret, for each situation with a way to one.

    For situations that are not calm, this is 0: they can only be reached by a regret.
    """
    calm = calm_situations(moves)
    steps = {}
    for situation, losses in moves.items():
        known = [steps[following] for nexts in losses.values() for following in nexts if following in steps]
        if not calm[situation]:
            steps[situation] = 0
        elif known:
            steps[situation] = min(known) + 1
    return steps


def longer_ways(moves, steps, way, situation):
    """Return, ascending, the way with each next step that leads shortest to a regret, and the situation then."""
    crew = situation[1]
    found = []
    for lost, nexts in moves[situation].items():
        for following in nexts:
            if steps.get(following) == steps[situation] - 1:
                answer = following[1] if lost in crew else None
                found.append((way + ((lost, answer),), following))
    return found
