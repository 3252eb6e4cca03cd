"""The checker of refusal trees."""

from crewbook.crewsets import check_people
from crewbook.errors import InvalidPaper
from crewbook.kinds import is_marked, is_pair_of_name_tuples, is_tuple_of_names
from crewbook.pagerules import allowed_by, relevant_sets


def lets_refusal(crews, present, crew, width, thing, *, kept=()):
    """Return the number of nodes of any value that is a refusal tree, otherwise raise InvalidPaper."""
    check_people(crews, present, crew, kept)
    check_shape(thing)
    rules = NodeRules(crews, present, width, kept)
    count = 0
    # A loop instead of recursion: a tree that the package made may be deep.
    waiting = [(thing, {present: crew})]
    while waiting:
        (steps, end), above = waiting.pop()
        known = rules.known_after(count, steps, above)
        branches = rules.branches_at(count, end, known)
        waiting.extend(branches[::-1])
        count += 1
    return count


class NodeRules:
    """What the nodes of refusal trees for a situation must keep to; known pages are dicts of crews by sets."""

    def __init__(self, crews, present, width, kept):
        self._listed = crews
        self._width = width
        self._kept = kept
        self._sets = relevant_sets(crews, present, kept)

    def known_after(self, n, steps, above):
        """Return the pages that are known after the steps of node n, or raise InvalidPaper."""
        known = {people: above[people] for people in above}
        for i, (people, crew) in enumerate(steps):
            if not self.is_unknown(people, known):
                raise InvalidPaper("set", (n, i))
            if self.allowed(people, known) != (crew,):
                raise InvalidPaper("forced", (n, i))
            known[people] = crew
        return known

    def branches_at(self, n, end, known):
        """Return the nodes of the branches of an end, each with the pages known in it, or raise InvalidPaper."""
        people = end[1]
        if not self.is_unknown(people, known):
            raise InvalidPaper("end", n)
        allowed = self.allowed(people, known)
        if end[0] == "none":
            if allowed:
                raise InvalidPaper("none", n)
            return []
        branches = end[2]
        if len(allowed) < 2 or tuple([crew for crew, node in branches]) != allowed:
            raise InvalidPaper("split", n)
        return [(node, with_page(known, people, crew)) for crew, node in branches]

    def is_unknown(self, people, known):
        """Return whether the people are a relevant set without a known page."""
        return people in self._sets and people not in known

    def allowed(self, people, known):
        return allowed_by(self._listed, known, people, self._width, self._kept)


def with_page(known, people, crew):
    pages = {larger: known[larger] for larger in known}
    pages[people] = crew
    return pages


def check_shape(thing):
    waiting = [thing]
    while waiting:
        node = waiting.pop()
        if not is_node(node):
            raise InvalidPaper("shape", -1)
        end = node[1]
        if end[0] == "split":
            waiting.extend([branch[1] for branch in end[2]])


def is_node(thing):
    """Return whether any value is a node, whatever stands in the place of the nodes of its branches."""
    if not isinstance(thing, tuple) or len(thing) != 2 or not isinstance(thing[0], tuple):
        return False
    steps, end = thing
    return all([is_pair_of_name_tuples(step) for step in steps]) and is_end(end)


def is_end(thing):
    if is_marked(thing, "none", 2):
        return is_tuple_of_names(thing[1])
    if not is_marked(thing, "split", 3) or not is_tuple_of_names(thing[1]):
        return False
    return isinstance(thing[2], tuple) and all([is_branch(branch) for branch in thing[2]])


def is_branch(thing):
    return isinstance(thing, tuple) and len(thing) == 2 and is_tuple_of_names(thing[0])
