"""What members of crews are worth: the prices of crews by the wages of their members."""

from crewbook.crewsets import check_people, crews_within
from crewbook.losses import newcomers


def cheapest(crews, present, **wages):
    """Return the least of the crews left that have the least price, or None."""
    check_people(crews, present, list(wages))
    # Of several crews with this price, min returns the first one.
    return min(crews_within(crews, present), key=lambda crew: price(crew, wages), default=None)


def price_of(crews, present, *lost, **wages):
    """Return the price of a cheapest crew without the lost people, or None."""
    check_people(crews, present, lost, list(wages))
    return least_price(crews_within(crews, newcomers(lost, present)), wages)


def threshold(crews, present, person, **wages):
    """Return the greatest wage for which the person is in some cheapest crew.

    This is -1 if there is no such wage, and None if the person is in each crew that is left, and one is left.
    """
    check_people(crews, present, (person,), list(wages))
    left = crews_within(crews, present)
    others = [crew for crew in left if person not in crew]
    having = [crew for crew in left if person in crew]
    if not having:
        return -1
    if not others:
        return None
    for_nothing = {**wages, person: 0}
    return max(least_price(others, wages) - least_price(having, for_nothing), -1)


def price(crew, wages):
    return sum([wages.get(person, 0) for person in crew])


def least_price(crews, wages):
    return min([price(crew, wages) for crew in crews], default=None)
