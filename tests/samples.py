"""Values and slow direct definitions that several tests use."""

import unittest
from functools import lru_cache
from itertools import combinations, product

from crewbook.errors import InvalidPaper, UnknownPerson

WIDE = (('a', 'c', 'p'), ('a', 'c', 'q'), ('a', 'c', 'r'), ('a', 'c', 's'), ('a', 'p', 'q', 'y'),
        ('a', 'r', 's', 'x'), ('p', 'q', 'r', 's', 'x', 'y'))
ALL = ('a', 'c', 'p', 'q', 'r', 's', 'x', 'y')
BIG = ('p', 'q', 'r', 's', 'x', 'y')
PAIRS = (('m', 'n'), ('m', 'p'), ('m', 'q'), ('n', 'q'), ('q', 'r'))
FIVE = ('m', 'n', 'p', 'q', 'r')
TWO = (('a', 'b'), ('a', 'c'))
BOOK = ((('a', 'b'), ('a', 'b')), (('a', 'b', 'c'), ('a', 'b')), (('a', 'c'), ('a', 'c')))
SIXTY = 10 ** 60 - 1
THIRTEEN = tuple('abcdefghijklm')

# Values of every kind that "any value" means, none of which is a name, a number, a set or crews.
ODD = (
    True, False, None, -1, -SIXTY, '', ' ', 'A', 'aB', 'a b', 'a,b', 'a1', '1', '-', '_', '`', '{', 'a\n', '\na', '\n',
    'abcdefghi', 'a' * 4000, [], ['a'], ['a', 'b'], [('a',)], [[]], [None], (1,), (0,), (True,), (None,), ('',),
    ('A',), (('a',), 'b'), ('a', ('b',)), ('a', 1), ('a', None), ('b', 'a'), ('a', 'a'), ('a', ['b']), (['a'],),
    ((['a'],),), (('a', 1),), (('a',), None), (('b', 'a'),), (('a', 'a'),), ((),), ((), ('a',)), (('b',), ('a',)),
    (('a',), ('a',)), (('a',), ('a', 'b')), (('a', 'b'), ('b',)), (((),),), ((((),),),),
)


def nested(depth):
    """Return tuples and lists in each other, so many of them."""
    thing = 'a'
    for k in range(depth):
        thing = (thing,) if k % 2 else [thing]
    return thing


def subsets(people):
    """Return all subsets, ascending."""
    return sorted(some for many in range(len(people) + 1) for some in combinations(people, many))


def people_in(crews):
    return tuple(sorted({person for crew in crews for person in crew}))


def left_in(crews, people):
    return tuple(crew for crew in crews if set(crew) <= set(people))


def leads(crew, lost, other, width):
    """Return whether a loss leads to the other crew, which is left, by the words of the document."""
    return other == crew if lost not in crew else len(set(other) - set(crew)) <= width


def is_book_directly(crews, present, width, pages, kept):
    """Return whether pages, a dict with one for each relevant set, are a book."""
    for people, crew in pages.items():
        for lost in people:
            rest = tuple(person for person in people if person != lost)
            if lost not in kept and rest in pages and not leads(crew, lost, pages[rest], width):
                return False
    return True


def relevant_directly(crews, present, kept):
    needed = set(kept) & set(present)
    return [people for people in subsets(present) if needed <= set(people) and left_in(crews, people)]


def books_directly(crews, present, width, kept=()):
    """Return the list of all books, found by trying all pages."""
    relevant = relevant_directly(crews, present, kept)
    found = []
    for chosen in product(*[left_in(crews, people) for people in relevant]):
        if is_book_directly(crews, present, width, dict(zip(relevant, chosen)), kept):
            found.append(tuple(zip(relevant, chosen)))
    return found


def are_crews(sets):
    """Return whether sets of names, a list, are crews when sorted."""
    return bool(sets) and all(
        crew and not any(set(crew) <= set(other) for other in sets if other != crew) for crew in sets)


def all_crews(names, most):
    """Return all crews of some of the names with at most so many members of the list."""
    sets = [some for some in subsets(names) if some]
    return [tuple(sorted(chosen)) for many in range(1, most + 1)
            for chosen in combinations(sets, many) if are_crews(chosen)]


FOUR = (('a', 'b'), ('c', 'd'))
# Three crews with a refusal tree of three nodes, one of which splits.
SPLIT = (('a', 'd'), ('b', 'd', 'e'), ('c', 'e'))
# Crews with four shortest ways to a regret, of two steps each, from the crew ('b', 'f').
LONG = (('a', 'e'), ('b', 'd'), ('b', 'e'), ('b', 'f'), ('c', 'd'), ('d', 'e'), ('d', 'f'), ('e', 'f'))
# Crews with three shortest ways to a regret, of three steps each, from the crew ('b', 'g') if f is kept.
LONGER = (('a', 'b'), ('a', 'd'), ('a', 'f'), ('a', 'g'), ('b', 'f'), ('b', 'g'), ('c', 'd'), ('d', 'e'), ('d', 'f'),
          ('e', 'f'), ('e', 'g'), ('f', 'g'))
# Five crews with a refusal tree of five nodes, in which a branch splits again.
DEEP = (('a', 'b', 'd', 'e'), ('a', 'c', 'd'), ('a', 'c', 'f'), ('a', 'e', 'f'), ('b', 'c', 'e'))


def without_one(people, lost):
    return tuple(person for person in people if person != lost)


def random_crews(rnd, names, most):
    """Return some crews of at most so many members of the list, of some of the names."""
    chosen = []
    for _ in range(rnd.randint(1, most)):
        crew = tuple(sorted(rnd.sample(names, rnd.randint(1, min(4, len(names))))))
        if not any(set(crew) <= set(other) or set(other) <= set(crew) for other in chosen):
            chosen.append(crew)
    return tuple(sorted(chosen))


def crews_after(crews, present, crew, lost, width):
    """Return the crews with which the duty can go on after a loss, or None if it is over."""
    left = left_in(crews, without_one(present, lost))
    if not left:
        return None
    return tuple(other for other in left if leads(crew, lost, other, width))


def is_calm_directly(crews, present, crew, width, kept=()):
    for lost in present:
        if lost not in kept:
            following = crews_after(crews, present, crew, lost, width)
            rest = without_one(present, lost)
            if following is not None and not any(
                    is_calm_directly(crews, rest, other, width, kept) for other in following):
                return False
    return True


def is_careless_directly(crews, present, crew, width, kept=()):
    for lost in present:
        if lost not in kept:
            following = crews_after(crews, present, crew, lost, width)
            rest = without_one(present, lost)
            if following == () or following is not None and not all(
                    is_careless_directly(crews, rest, other, width, kept) for other in following):
                return False
    return True


def remembered(crews, width, kept=()):
    """Return what tells directly whether a situation is calm, and careless; both remember what they found."""
    def losses(present, crew):
        for lost in present:
            following = crews_after(crews, present, crew, lost, width)
            if lost not in kept and following is not None:
                yield without_one(present, lost), following

    @lru_cache(maxsize=None)
    def calm(present, crew):
        return all(any(calm(rest, other) for other in following) for rest, following in losses(present, crew))

    @lru_cache(maxsize=None)
    def careless(present, crew):
        return all(following and all(careless(rest, other) for other in following)
                   for rest, following in losses(present, crew))

    return calm, careless


def regrets_directly(crews, present, crew, width, kept=()):
    """Return all shortest ways to a regret, ascending, found by trying longer and longer ways."""
    calm, _ = remembered(crews, width, kept)
    ways = [((), present, crew)] if calm(present, crew) else []
    while ways:
        ways = [longer for way in ways for longer in longer_by_one(crews, way, width, kept)]
        found = sorted(way for way, people, last in ways if not calm(people, last))
        if found:
            return found
    return []


def longer_by_one(crews, start, width, kept):
    """Return each way with one more step, as (way, present, crew) like the start."""
    way, present, crew = start
    found = []
    for lost in present:
        for other in () if lost in kept else crews_after(crews, present, crew, lost, width) or ():
            step = (lost, other if lost in crew else None)
            found.append((way + (step,), without_one(present, lost), other))
    return found


def situations_in(crews):
    """Return all situations, ascending."""
    return [state for state in states_in(crews) if state[1]]


def states_in(crews):
    """Return all states, ascending."""
    return [(present, crew) for present in subsets(people_in(crews)) for crew in left_in(crews, present) or [()]]


def events_in(crews, state, kept=()):
    """Return the events of a state, ascending."""
    return sorted([('back', person) if person not in state[0] else ('lost', person)
                   for person in people_in(crews) if person not in state[0] or person not in kept])


def states_after(crews, state, event, width):
    """Return the states to which an event leads, by the words of the document."""
    (present, crew), (_, person) = state, event
    people = tuple(sorted(set(present) ^ {person}))
    left = left_in(crews, people)
    if crew in left:
        return [(people, crew)]
    if not left:
        return [(people, ())]
    return [(people, other) for other in left if crew == () or len(set(other) - set(crew)) <= width]


def steady_directly(crews, width, kept=()):
    """Return the list of the states of the greatest steady set."""
    chosen = states_in(crews)
    while True:
        fewer = [state for state in chosen if all(
            any(following in chosen for following in states_after(crews, state, event, width))
            for event in events_in(crews, state, kept))]
        if fewer == chosen:
            return chosen
        chosen = fewer


def steady_by_all_sets(crews, width, kept=()):
    """Return the list of the states in any steady set, found by trying all sets of states."""
    states = states_in(crews)
    numbers = {state: 1 << k for k, state in enumerate(states)}
    needs = [[sum(numbers[following] for following in states_after(crews, state, event, width))
              for event in events_in(crews, state, kept)] for state in states]
    steady = 0
    for chosen in range(1 << len(states)):
        if all(chosen & need for k, row in enumerate(needs) if chosen >> k & 1 for need in row):
            steady |= chosen
    return [state for k, state in enumerate(states) if steady >> k & 1]


def all_careless(crews):
    """Return whether all situations of the crews are careless for width 1."""
    return all(is_careless_directly(crews, present, crew, 1)
               for present in subsets(people_in(crews)) for crew in left_in(crews, present))


def good_directly(crews):
    """Return whether the crews are good, by the words of (K4)."""
    return all(
        any(tuple(sorted((set(one) - {person}) | {new})) in crews for new in set(other) - set(one))
        for one in crews for other in crews for person in set(one) - set(other))


def places_in(thing):
    """Return the paths to all parts of nested tuples, the empty one to the whole."""
    inner = [(k,) + path for k, part in enumerate(thing) for path in places_in(part)] if isinstance(thing, tuple) else []
    return [()] + inner


def with_part(thing, path, value):
    """Return nested tuples with the value in the place of a part."""
    if not path:
        return value
    k = path[0]
    return thing[:k] + (with_part(thing[k], path[1:], value),) + thing[k + 1:]


def part_at(thing, path):
    for k in path:
        thing = thing[k]
    return thing


def changed(rnd, thing):
    """Return nested tuples with one part replaced, left out, doubled or exchanged for another one."""
    paths = places_in(thing)
    path, other = rnd.choice(paths[1:]), rnd.choice(paths)
    way = rnd.randrange(4)
    if way == 0:
        return with_part(thing, path, rnd.choice(ODD))
    if way == 1:
        return with_part(thing, path, part_at(thing, other))
    around = part_at(thing, path[:-1])
    k = path[-1]
    return with_part(thing, path[:-1], around[:k] + around[k:k + 1] * (2 * way - 4) + around[k + 1:])


class CrewTest(unittest.TestCase):
    """Tests of errors."""

    def refuse(self, function, word, at, *arguments, **named):
        with self.assertRaises(InvalidPaper) as caught:
            function(*arguments, **named)
        error = caught.exception
        self.assertEqual((error.word, error.at, type(error.at)), (word, at, type(at)), (arguments, named))

    def unknown(self, person, function, *arguments, **named):
        with self.assertRaises(UnknownPerson) as caught:
            function(*arguments, **named)
        self.assertEqual(caught.exception.person, person)

    def by_name_only(self, function, *arguments):
        """Check that a call with these arguments by position is refused."""
        with self.assertRaises(TypeError):
            function(*arguments)
