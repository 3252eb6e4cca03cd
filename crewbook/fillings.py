"""The crews that groups, posts, ties and lists describe."""

from crewbook.errors import InvalidPaper


def checked_crews(crews, most):
    """Return the crews in the form that lists keep, unless there are too many."""
    if len(crews) > most:
        raise InvalidPaper("many", -1)
    return tuple(sorted([tuple(sorted(crew)) for crew in crews]))


def least_sets(people, rank, most):
    """Return all sets that have the rank of all people and from which nobody can be left out.

    The rank of some people is the greatest number of them of whom nobody is useless, and it is one of a
    matroid. So a part without a useless member that has the full rank together with the rest can be filled
    up from the rest: each part becomes a set of its own, and too many parts mean too many sets.
    """
    full = rank(people)
    parts = [()]
    for at, person in enumerate(people):
        rest = people[at + 1:]
        longer = [part + (person,) for part in parts if rank(part + (person,)) > len(part)]
        parts = longer + [part for part in parts if rank(part + rest) == full]
        if len(parts) > most:
            raise InvalidPaper("many", -1)
    return checked_crews(parts, most)


def group_crews(groups, most):
    people = tuple([person for number, members in groups for person in members])
    return least_sets(people, lambda chosen: group_rank(groups, chosen), most)


def group_rank(groups, chosen):
    """Return how many of the chosen people the groups can use."""
    counts = [(number, len([person for person in members if person in chosen])) for number, members in groups]
    return sum([min(number, count) for number, count in counts])


def post_crews(posts, most):
    people = tuple(sorted({person for post in posts for person in post}))
    if post_rank(posts, people) < len(posts):
        raise InvalidPaper("fill", -1)
    return least_sets(people, lambda chosen: post_rank(posts, chosen), most)


def post_rank(posts, chosen):
    """Return how many posts the chosen people can fill."""
    filled = {}
    count = 0
    for k in range(len(posts)):
        if fill_post(posts, chosen, k, filled, []):
            count += 1
    return count


def fill_post(posts, chosen, k, filled, tried):
    """Fill post k with one of the chosen people who were not tried, and return whether this was possible.

    The posts of people in filled are changed if that makes somebody free.
    """
    for person in posts[k]:
        if person in chosen and person not in tried:
            tried.append(person)
            if person not in filled or fill_post(posts, chosen, filled[person], filled, tried):
                filled[person] = k
                return True
    return False


def web_crews(ties, most):
    people = tuple([person for person, end, other in ties])
    ends = len({place for person, end, other in ties for place in (end, other)})
    if tie_rank(ties, people) < ends - 1:
        raise InvalidPaper("split", -1)
    return least_sets(people, lambda chosen: tie_rank(ties, chosen), most)


def tie_rank(ties, chosen):
    """Return how many of the ties of the chosen people join what those before do not join."""
    webs = {place: place for person, end, other in ties for place in (end, other)}
    count = 0
    for person, end, other in ties:
        if person in chosen and webs[end] != webs[other]:
            joined = webs[other]
            webs = {place: webs[end] if web == joined else web for place, web in webs.items()}
            count += 1
    return count


def joined_crews(parts, most):
    """Return the crews with one crew of each of the parts, which are crews of different people."""
    found = [()]
    for crews in parts:
        found = [crew + other for crew in found for other in crews]
        # Each part has a crew, so the number never becomes smaller again.
        if len(found) > most:
            raise InvalidPaper("many", -1)
    return checked_crews(found, most)
