"""Good papers: why crews are good, or why they are not."""

from crewbook.crewsets import people_of
from crewbook.exchanges import GOOD_WIDTH, all_exchange, exchange_partners, exchange_places
from crewbook.losses import loss_word


def good_paper(crews):
    """Return a good paper: one with all exchanges if the crews are good, else one with a stuck loss."""
    if not all_exchange(crews):
        return stuck_paper(crews)
    places = exchange_places(crews)
    rows = [(i, j, person, exchange_partners(crews, (i, j, person))[0]) for i, j, person in places]
    return "good", tuple(rows)


def stuck_paper(crews):
    """Return a good paper for crews that are not good.

    They have a stuck loss, and it stays stuck if only the crew and one other that is left then are present.
    """
    found = []
    for i, j, person in exchange_places(crews):
        present = people_of((crews[i], crews[j]))
        if loss_word(crews, present, crews[i], person, GOOD_WIDTH) == "stuck":
            found.append((present, crews[i], person))
    present, crew, lost = found[0]
    return "bad", present, crew, lost
