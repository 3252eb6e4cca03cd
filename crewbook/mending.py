"""What could mend a list of crews: which of some offers make a situation calm or booked."""

from crewbook.books import is_booked
from crewbook.calm import is_calm
from crewbook.crewsets import check_people, contains


def least_offers(crews, present, crew, offers, width, *, goal="calm"):
    """Return the sufficient sets of the offers that contain no other sufficient set."""
    check_people(crews, present, crew)
    found = []
    # Smaller sets come first: a set with a sufficient one in it need not be tried.
    for chosen in sorted(subsets_of(offers), key=len):
        if not any([contains(chosen, least) for least in found]):
            if is_sufficient(crews, present, crew, chosen, width, goal):
                found.append(chosen)
    return tuple(sorted(found))


def subsets_of(offers):
    subsets = [()]
    for offer in offers:
        subsets = subsets + [some + (offer,) for some in subsets]
    return subsets


def is_sufficient(crews, present, crew, chosen, width, goal):
    """Return whether the situation is as wanted with the chosen offers."""
    added = [what for word, what in chosen if word == "crew"]
    kept = tuple([what for word, what in chosen if word == "keep"])
    together = tuple(sorted(list(crews) + added))
    if goal == "booked":
        return is_booked(together, present, crew, width, kept=kept)
    return is_calm(together, present, crew, width, kept=kept)
