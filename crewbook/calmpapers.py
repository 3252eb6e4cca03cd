"""Calm papers: why a situation is calm, or why it is not."""

from crewbook.crewsets import check_people
from crewbook.lossmoves import calm_situations, loss_moves


def calm_paper(crews, present, crew, width, *, kept=()):
    """Return a calm paper of the situation."""
    check_people(crews, present, crew, kept)
    moves = loss_moves(crews, present, width, kept)
    calm = calm_situations(moves)
    start = (present, crew)
    if calm[start]:
        return "calm", rows_from(start, lambda situation: calm_row(moves, calm, kept, situation))
    return "not", rows_from(start, lambda situation: unsafe_row(moves, calm, situation))


def rows_from(start, row_of):
    """Return the rows of the start and of all that follows it.

    For a situation, row_of returns the last entry of its row and the situations that need a row with it.
    """
    found = {}
    waiting = [start]
    while waiting:
        situation = waiting.pop()
        if situation not in found:
            entry, following = row_of(situation)
            found[situation] = entry
            waiting.extend(following)
    return tuple([(people, crew, found[(people, crew)]) for people, crew in sorted(found)])


def calm_row(moves, calm, kept, situation):
    """Return the followers of a calm situation, and the situations with them."""
    losses = moves[situation]
    chosen = {lost: [following for following in losses[lost] if calm[following]][0] for lost in losses}
    losable = [person for person in situation[0] if person not in kept]
    followers = tuple([chosen[lost][1] if lost in chosen else None for lost in losable])
    return followers, list(chosen.values())


def unsafe_row(moves, calm, situation):
    """Return the first loss that leads to no calm situation, and the situations to which it leads."""
    losses = moves[situation]
    unsafe = [lost for lost in losses if not any([calm[following] for following in losses[lost]])]
    return unsafe[0], losses[unsafe[0]]
