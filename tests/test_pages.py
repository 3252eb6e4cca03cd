import unittest
from random import Random

from crewbook.pages import allowed_crews, followed, page_of
from tests.samples import (BOOK, FIVE, PAIRS, SIXTY, TWO, CrewTest, all_crews, left_in, people_in, random_crews, subsets,
                           without_one)

ABC = ('a', 'b', 'c')
AB, AC = TWO


def allowed_directly(crews, pages, people, width, kept):
    """Return the crews that are allowed for a set, by the words of the document."""
    found = []
    for crew in left_in(crews, people):
        good = True
        for larger, other in pages:
            lost = set(larger) - set(people)
            if set(people) <= set(larger) and len(lost) == 1 and not lost & set(kept):
                stays = not lost & set(other)
                good = good and (crew == other if stays else len(set(crew) - set(other)) <= width)
        found += [crew] if good else []
    return tuple(found)


class TestAllowedCrews(CrewTest):
    def test_example_of_the_document(self):
        self.assertEqual(allowed_crews(PAIRS, ((FIVE, ('m', 'n')),), ('m', 'p', 'q', 'r'), 1), (('m', 'p'), ('m', 'q')))

    def test_no_known_pages(self):
        for people in subsets(FIVE):
            self.assertEqual(allowed_crews(PAIRS, (), people, 0), left_in(PAIRS, people))

    def test_no_crew_is_left(self):
        self.assertEqual(allowed_crews(TWO, ((AB, AB),), ('a',), 9), ())
        self.assertEqual(allowed_crews(TWO, (), (), 1), ())

    def test_the_crew_must_stay(self):
        crews = (('a',), ('b',), ('c',))
        self.assertEqual(allowed_crews(crews, ((ABC, ('a',)),), AB, SIXTY), (('a',),))
        self.assertEqual(allowed_crews(crews, ((ABC, ('a',)),), ('b', 'c'), 1), (('b',), ('c',)))
        self.assertEqual(allowed_crews(crews, ((ABC, ('a',)),), ('b', 'c'), 0), ())

    def test_width(self):
        wide = ((('a', 'b'), ('c', 'd', 'e')))
        page = (('a', 'b', 'c', 'd', 'e'), ('a', 'b'))
        for width in range(5):
            expected = (('c', 'd', 'e'),) if width >= 3 else ()
            self.assertEqual(allowed_crews(wide, (page,), ('b', 'c', 'd', 'e'), width), expected)

    def test_each_known_page_restricts(self):
        crews = (('a', 'b'), ('a', 'c'), ('a', 'd'))
        pages = ((('a', 'b', 'c', 'd'), ('a', 'b')), (('a', 'c', 'd'), ('a', 'c')))
        self.assertEqual(allowed_crews(crews, pages[1:], ('a', 'd'), 1), (('a', 'd'),))
        self.assertEqual(allowed_crews(crews, pages, ('a', 'c', 'd'), 1), (('a', 'c'), ('a', 'd')))
        both = ((('a', 'b', 'c'), ('a', 'b')), (('a', 'c', 'd'), ('a', 'c')))
        self.assertEqual(allowed_crews(crews, both, ('a', 'c'), 1), (('a', 'c'),))
        self.assertEqual(allowed_crews(crews, both[:1], ('a', 'c'), 0), ())
        three = (('a',), ('b',), ('c',), ('d',))
        against = ((('a', 'b', 'c'), ('a',)), (('a', 'b', 'd'), ('b',)))
        self.assertEqual(allowed_crews(three, against, ('a', 'b'), 1), ())

    def test_only_sets_with_one_more_person_matter(self):
        pages = ((('a', 'b'), ('a', 'b')), (('a', 'b', 'c'), ('a', 'b')), (('a', 'c'), ('a', 'c')))
        self.assertEqual(allowed_crews(TWO, pages, ABC, 0), TWO)
        crews = (('a',), ('b',), ('c',), ('d',))
        page = (('a', 'b', 'c', 'd'), ('d',))
        self.assertEqual(allowed_crews(crews, (page,), AB, 0), (('a',), ('b',)))
        self.assertEqual(allowed_crews(crews, ((('a', 'c', 'd'), ('d',)),), AB, 0), (('a',), ('b',)))
        self.assertEqual(allowed_crews(crews, ((AB, ('a',)),), AB, 0), (('a',), ('b',)))

    def test_one_more_person_who_is_kept_does_not_count(self):
        pages = ((ABC, AB),)
        self.assertEqual(allowed_crews(TWO, pages, AC, 0), ())
        self.assertEqual(allowed_crews(TWO, pages, AC, 0, kept=('b',)), (AC,))
        self.assertEqual(allowed_crews(TWO, pages, AC, 0, kept=('a', 'c')), ())
        two = ((('a', 'b', 'c'), ('b',)), (('a', 'b', 'd'), ('a',)))
        self.assertEqual(allowed_crews((('a',), ('b',), ('c',), ('d',)), two, AB, 1, kept=('d',)), (('b',),))

    def test_against_the_definition(self):
        rnd = Random(11)
        for crews in all_crews(ABC, 3) + [random_crews(rnd, 'abcd', 6) for _ in range(200)]:
            people = people_in(crews)
            sets = [some for some in subsets(people) if left_in(crews, some)]
            for _ in range(4):
                known = sorted(rnd.sample(sets, rnd.randint(0, len(sets))))
                pages = tuple((some, rnd.choice(left_in(crews, some))) for some in known)
                kept = tuple(sorted(rnd.sample(people, rnd.choice((0, 1)))))
                for some in subsets(people):
                    for width in (0, 1, 2):
                        self.assertEqual(allowed_crews(crews, pages, some, width, kept=kept),
                                         allowed_directly(crews, pages, some, width, kept))

    def test_arguments(self):
        pages = ((ABC, AB),)
        self.assertEqual(allowed_crews(crews=TWO, pages=pages, present=AC, width=1, kept=()), (AC,))
        self.by_name_only(allowed_crews, TWO, pages, AC, 1, ())
        self.assertIs(type(allowed_crews(TWO, pages, AC, 1)), tuple)

    def test_unknown_people(self):
        self.unknown('d', allowed_crews, TWO, (), ('a', 'd', 'e'), 1, kept=('z',))
        self.unknown('y', allowed_crews, TWO, (), AB, 1, kept=('a', 'y', 'z'))


class TestPageOf(CrewTest):
    def test_pages(self):
        for people, crew in BOOK:
            self.assertEqual(page_of(BOOK, people), crew)

    def test_no_page(self):
        for people in ((), ('a',), ('b', 'c'), ('z',)):
            self.assertIsNone(page_of(BOOK, people))
        self.assertIsNone(page_of((), ()))

    def test_pages_that_are_no_book(self):
        self.assertEqual(page_of(((AC, AC),), AC), AC)
        self.assertEqual(page_of(((('x', 'y'), ('y',)), (('x', 'z'), ('zz',))), ('x', 'z')), ('zz',))

    def test_arguments_by_name(self):
        self.assertEqual(page_of(book=BOOK, people=AC), AC)


class TestFollowed(CrewTest):
    def test_example_of_the_document(self):
        self.assertEqual(followed(BOOK, ABC, 'b', 'c'), (AB, AC, None))

    def test_nobody_is_lost(self):
        self.assertEqual(followed(BOOK, ABC), (AB,))
        self.assertEqual(followed(book=BOOK, present=AC), (AC,))
        self.assertEqual(followed((), ()), (None,))

    def test_the_order_of_losses(self):
        self.assertEqual(followed(BOOK, ABC, 'c', 'b', 'a'), (AB, AB, None, None))
        self.assertEqual(followed(BOOK[:1] + BOOK[2:], ABC, 'b'), (None, AC))
        self.assertEqual(followed(BOOK[1:2], ABC, 'a', 'b', 'c'), (AB, None, None, None))

    def test_against_page_of(self):
        rnd = Random(12)
        pages = tuple((people, rnd.choice(left_in(PAIRS, people))) for people in subsets(FIVE) if left_in(PAIRS, people))
        for _ in range(100):
            lost = rnd.sample(FIVE, rnd.randint(0, 5))
            present, expected = FIVE, [page_of(pages, FIVE)]
            for person in lost:
                present = without_one(present, person)
                expected.append(page_of(pages, present))
            self.assertEqual(followed(pages, FIVE, *lost), tuple(expected))


if __name__ == '__main__':
    unittest.main()
