"""What several modules need to know of sets of people and of crews."""

from crewbook.errors import UnknownPerson


def is_ascending(things):
    return all([one < other for one, other in zip(things, things[1:])])


def contains(larger, smaller):
    """Return whether all of the smaller set are in the larger one."""
    return all([person in larger for person in smaller])


def without_person(people, lost):
    return tuple([person for person in people if person != lost])


def with_person(people, person):
    return tuple(sorted(people + (person,)))


def people_of(crews):
    return tuple(sorted({person for crew in crews for person in crew}))


def crews_within(crews, people):
    """Return the crews of which all members are among the people."""
    return tuple([crew for crew in crews if contains(people, crew)])


def check_people(crews, *groups):
    """Raise UnknownPerson for the first name of the groups, in their order, that the crews do not have."""
    known = people_of(crews)
    for group in groups:
        for person in group:
            if person not in known:
                raise UnknownPerson(person)


def first_inside(crews):
    """Return the least pair of indexes of two crews, none empty, the first within the second, or None."""
    holders = {}
    for k, crew in enumerate(crews):
        for person in crew:
            holders.setdefault(person, []).append(k)
    for j, crew in enumerate(crews):
        # Only the crews that have its first member can contain a crew: this spares most of the pairs.
        for k in holders[crew[0]]:
            if k != j and contains(crews[k], crew):
                return j, k
    return None
