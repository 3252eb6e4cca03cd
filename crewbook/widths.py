"""The widths for which a situation is safe."""

from crewbook.books import is_booked
from crewbook.calm import is_calm
from crewbook.careless import is_careless
from crewbook.crewsets import check_people


def widths(crews, present, crew, *, kept=()):
    """Return the widths for which the situation is calm, careless and booked."""
    check_people(crews, present, crew, kept)
    # No crew can have more new members than this, so all greater widths are alike.
    greatest = max([len(other) for other in crews])
    every = list(range(greatest + 1))
    return (
        tuple([width for width in every if is_calm(crews, present, crew, width, kept=kept)]),
        tuple([width for width in every if is_careless(crews, present, crew, width, kept=kept)]),
        tuple([width for width in every if is_booked(crews, present, crew, width, kept=kept)]),
    )
