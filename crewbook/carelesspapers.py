"""Careless papers: why a situation is careless, or why it is not."""

from crewbook.crewsets import check_people
from crewbook.lossmoves import careless_situations, loss_moves


def careless_paper(crews, present, crew, width, *, kept=()):
    """Return a careless paper of the situation."""
    check_people(crews, present, crew, kept)
    moves = loss_moves(crews, present, width, kept)
    careless = careless_situations(moves)
    start = (present, crew)
    if careless[start]:
        return "careless", reached(moves, start)
    way, lost = stuck_way(moves, careless, start)
    return "stuck", way, lost


def reached(moves, start):
    """Return, ascending, the start and all situations to which losses can lead from it."""
    found = {start: True}
    waiting = [start]
    while waiting:
        situation = waiting.pop()
        for nexts in moves[situation].values():
            fresh = [following for following in nexts if following not in found]
            for following in fresh:
                found[following] = True
            waiting.extend(fresh)
    return tuple(sorted(found))


def stuck_way(moves, careless, start):
    """Return a way from a situation that is not careless to a stuck loss, and who is lost then."""
    way = []
    situation = start
    while True:
        losses = moves[situation]
        stuck = [lost for lost in losses if not losses[lost]]
        if stuck:
            return tuple(way), stuck[0]
        # No loss is stuck here, so some loss leads to a situation that is not careless.
        lost, following = careful_steps(losses, careless)[0]
        way.append((lost, following[1] if lost in situation[1] else None))
        situation = following


def careful_steps(losses, careless):
    """Return the losses that can lead to a situation that is not careless, as (lost, situation)."""
    return [(lost, following) for lost in losses for following in losses[lost] if not careless[following]]
