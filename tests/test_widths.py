import unittest
from random import Random

from crewbook.widths import widths
from tests.samples import (ALL, BIG, DEEP, FIVE, FOUR, PAIRS, TWO, WIDE, CrewTest, all_crews, books_directly, people_in,
                           random_crews, remembered, situations_in)


def widths_directly(crews, present, crew, kept=()):
    """Return the three tuples by trying each width."""
    rows = []
    for width in range(max(map(len, crews)) + 1):
        calm, careless = remembered(crews, width, kept)
        booked = any(dict(book)[present] == crew for book in books_directly(crews, present, width, kept))
        rows.append((width, calm(present, crew), careless(present, crew), booked))
    return tuple(tuple(row[0] for row in rows if row[k]) for k in (1, 2, 3))


class TestWidths(CrewTest):
    def test_example_of_the_document(self):
        self.assertEqual(widths(PAIRS, FIVE, ('m', 'n')), ((1, 2), (2,), (1, 2)))

    def test_a_gap(self):
        self.assertEqual(widths(WIDE, ALL, BIG), ((1, 2, 3, 4, 5, 6), (1, 3, 4, 5, 6), (2, 3, 4, 5, 6)))

    def test_the_greatest_crew_counts_even_if_it_is_not_left(self):
        crews = (('a', 'b'), ('a', 'c'), ('b', 'c', 'd', 'e'))
        self.assertEqual(widths(crews, ('a', 'b', 'c'), ('a', 'b')), ((1, 2, 3, 4),) * 3)
        self.assertEqual(widths((('a',), ('b',)), ('a',), ('a',)), ((0, 1),) * 3)

    def test_nobody_can_be_lost(self):
        self.assertEqual(widths(FOUR, people_in(FOUR), FOUR[0], kept=people_in(FOUR)), ((0, 1, 2),) * 3)
        self.assertEqual(widths(FOUR, people_in(FOUR), FOUR[0]), ((2,),) * 3)

    def test_kept(self):
        self.assertEqual(widths(TWO, ('a', 'b', 'c'), ('a', 'b'), kept=('b',)), ((0, 1, 2),) * 3)
        self.assertEqual(widths(TWO, ('a', 'c'), ('a', 'c'), kept=('b',)), ((0, 1, 2),) * 3)
        self.assertEqual(widths(TWO, ('a', 'b', 'c'), ('a', 'b')), ((1, 2),) * 3)

    def test_against_a_direct_search(self):
        found = set()
        for crews in all_crews('abc', 3) + all_crews('abcd', 3)[::5] + [PAIRS[:4]]:
            for present, crew in situations_in(crews):
                for kept in ((), people_in(crews)[:1]):
                    self.assertEqual(widths(crews, present, crew, kept=kept), widths_directly(crews, present, crew, kept))
                    found.add(widths(crews, present, crew, kept=kept))
        self.assertGreater(len(found), 8)

    def test_against_a_direct_search_of_calm_and_careless(self):
        rnd = Random(141)
        for crews in [WIDE, DEEP] + [random_crews(rnd, 'abcdef', 9) for _ in range(40)]:
            people, crew = people_in(crews), rnd.choice(crews)
            kept = tuple(rnd.sample(people, rnd.choice((0, 0, 1))))
            calm, careless, booked = widths(crews, people, crew, kept=kept)
            for width in range(max(map(len, crews)) + 1):
                is_calm, is_careless = remembered(crews, width, kept)
                self.assertIs(width in calm, is_calm(people, crew))
                self.assertIs(width in careless, is_careless(people, crew))
            self.assertLessEqual(set(careless) | set(booked), set(calm))
            self.assertEqual(calm[-1:], (max(map(len, crews)),))
            self.assertEqual(calm, tuple(range(calm[0], calm[-1] + 1)))
            self.assertEqual(booked, tuple(range(booked[0], booked[-1] + 1)))

    def test_kinds(self):
        found = widths(PAIRS, FIVE, ('m', 'p'))
        self.assertEqual([type(part) for part in found] + [type(found), len(found)], [tuple] * 4 + [3])
        self.assertEqual(found, widths(crews=PAIRS, present=FIVE, crew=('m', 'p'), kept=()))
        self.by_name_only(widths, PAIRS, FIVE, ('m', 'p'), ())

    def test_unknown_people(self):
        self.unknown('x', widths, PAIRS, ('m', 'x', 'y'), ('w',), kept=('z',))
        self.unknown('w', widths, PAIRS, FIVE, ('m', 'w'), kept=('z',))
        self.unknown('y', widths, PAIRS, FIVE, ('m', 'n'), kept=('m', 'y', 'z'))


if __name__ == '__main__':
    unittest.main()
