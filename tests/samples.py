"""Values and slow direct definitions that several tests use."""

from itertools import combinations, product

WIDE = (('a', 'c', 'p'), ('a', 'c', 'q'), ('a', 'c', 'r'), ('a', 'c', 's'), ('a', 'p', 'q', 'y'),
        ('a', 'r', 's', 'x'), ('p', 'q', 'r', 's', 'x', 'y'))
ALL = ('a', 'c', 'p', 'q', 'r', 's', 'x', 'y')
BIG = ('p', 'q', 'r', 's', 'x', 'y')
PAIRS = (('m', 'n'), ('m', 'p'), ('m', 'q'), ('n', 'q'), ('q', 'r'))
FIVE = ('m', 'n', 'p', 'q', 'r')
TWO = (('a', 'b'), ('a', 'c'))
BOOK = ((('a', 'b'), ('a', 'b')), (('a', 'b', 'c'), ('a', 'b')), (('a', 'c'), ('a', 'c')))
SIXTY = 10 ** 60 - 1
THIRTEEN = tuple('abcdefghijklm')

# Values of every kind that "any value" means, none of which is a name, a number, a set or crews.
ODD = (
    True, False, None, -1, -SIXTY, '', ' ', 'A', 'aB', 'a b', 'a,b', 'a1', '1', '-', '_', '`', '{', 'a\n', '\na', '\n',
    'abcdefghi', 'a' * 4000, [], ['a'], ['a', 'b'], [('a',)], [[]], [None], (1,), (0,), (True,), (None,), ('',),
    ('A',), (('a',), 'b'), ('a', ('b',)), ('a', 1), ('a', None), ('b', 'a'), ('a', 'a'), ('a', ['b']), (['a'],),
    ((['a'],),), (('a', 1),), (('a',), None), (('b', 'a'),), (('a', 'a'),), ((),), ((), ('a',)), (('b',), ('a',)),
    (('a',), ('a',)), (('a',), ('a', 'b')), (('a', 'b'), ('b',)), (((),),), ((((),),),),
)


def nested(depth):
    """Return tuples and lists in each other, so many of them."""
    thing = 'a'
    for k in range(depth):
        thing = (thing,) if k % 2 else [thing]
    return thing


def subsets(people):
    """Return all subsets, ascending."""
    return sorted(some for many in range(len(people) + 1) for some in combinations(people, many))


def people_in(crews):
    return tuple(sorted({person for crew in crews for person in crew}))


def left_in(crews, people):
    return tuple(crew for crew in crews if set(crew) <= set(people))


def leads(crew, lost, other, width):
    """Return whether a loss leads to the other crew, which is left, by the words of the document."""
    return other == crew if lost not in crew else len(set(other) - set(crew)) <= width


def is_book_directly(crews, present, width, pages, kept):
    """Return whether pages, a dict with one for each relevant set, are a book."""
    for people, crew in pages.items():
        for lost in people:
            rest = tuple(person for person in people if person != lost)
            if lost not in kept and rest in pages and not leads(crew, lost, pages[rest], width):
                return False
    return True


def relevant_directly(crews, present, kept):
    needed = set(kept) & set(present)
    return [people for people in subsets(present) if needed <= set(people) and left_in(crews, people)]


def books_directly(crews, present, width, kept=()):
    """Return the list of all books, found by trying all pages."""
    relevant = relevant_directly(crews, present, kept)
    found = []
    for chosen in product(*[left_in(crews, people) for people in relevant]):
        if is_book_directly(crews, present, width, dict(zip(relevant, chosen)), kept):
            found.append(tuple(zip(relevant, chosen)))
    return found


def are_crews(sets):
    """Return whether sets of names, a list, are crews when sorted."""
    return bool(sets) and all(
        crew and not any(set(crew) <= set(other) for other in sets if other != crew) for crew in sets)


def all_crews(names, most):
    """Return all crews of some of the names with at most so many members of the list."""
    sets = [some for some in subsets(names) if some]
    return [tuple(sorted(chosen)) for many in range(1, most + 1)
            for chosen in combinations(sets, many) if are_crews(chosen)]
