"""Calm papers: why a situation is calm, or why it is not."""

from crewbook.calmsearch import CalmSearch
from crewbook.crewsets import check_people


def calm_paper(crews, present, crew, width, *, kept=()):
    """Return a calm paper of the situation."""
    check_people(crews, present, crew, kept)
    search = CalmSearch(crews, present, width, kept)
    start = (present, crew)
    if search.has_calm(start):
        return "calm", rows_from(start, lambda situation: calm_row(search, situation))
    return "not", rows_from(start, lambda situation: unsafe_row(search, situation))


def rows_from(start, row_of):
    """Return the rows of the start and of all that follows it.

    For a situation, row_of returns the last entry of its row and the situations that need a row with it.
    """
    found = {}
    waiting = [start]
    while waiting:
        situation = waiting.pop()
        if situation not in found:
            entry, following = row_of(situation)
            found[situation] = entry
            waiting.extend(following)
    return tuple([(people, crew, found[(people, crew)]) for people, crew in sorted(found)])


def calm_row(search, situation):
    """Return the followers of a calm situation, and the situations with them."""
    choices = [search.calm_after(situation, lost) for lost in search.losable(situation[0])]
    # Where no calm situation follows a loss, it ends the duty.
    followers = tuple([calm[0][1] if calm else None for calm in choices])
    return followers, [calm[0] for calm in choices if calm]


def unsafe_row(search, situation):
    """Return the first unsafe loss in a situation that is not calm, and the situations to which it leads."""
    lost = search.unsafe_loss(situation)
    return lost, search.after_loss(situation, lost)
