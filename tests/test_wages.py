import unittest
from itertools import permutations
from random import Random

from crewbook.bookchecker import lets_book
from crewbook.errors import UnknownPerson
from crewbook.goodcrews import is_good
from crewbook.wages import cheapest, price_of, threshold
from tests.samples import (FIVE, FOUR, PAIRS, TWO, CrewTest, all_crews, left_in, people_in, random_crews, relevant_directly,
                           subsets)

MN, MP, MQ, NQ, QR = PAIRS


def price(crew, wages):
    return sum(wages.get(person, 0) for person in crew)


def cheapest_directly(crews, present, wages):
    """Return all cheapest crews of a set, ascending."""
    left = left_in(crews, present)
    least = min((price(crew, wages) for crew in left), default=None)
    return tuple(crew for crew in left if price(crew, wages) == least)


def threshold_directly(crews, present, person, wages, most):
    """Return the greatest wage up to most, -1 if there is none, and None if each wage up to most will do."""
    fitting = [wage for wage in range(most + 1)
               if any(person in crew for crew in cheapest_directly(crews, present, {**wages, person: wage}))]
    return None if len(fitting) == most + 1 else max(fitting, default=-1)


def random_wages(rnd, people, most):
    return {person: rnd.randint(0, most) for person in people if rnd.random() < 0.8}


class TestCheapest(CrewTest):
    def test_cheapest(self):
        self.assertEqual(cheapest(PAIRS, FIVE, m=1), NQ)
        self.assertEqual(cheapest(PAIRS, FIVE, m=1, q=1), MN)
        self.assertEqual(cheapest(PAIRS, FIVE, m=1, q=2, n=1), MP)
        self.assertEqual(cheapest(PAIRS, FIVE, m=10 ** 6, n=10 ** 6), QR)
        self.assertEqual(cheapest(crews=PAIRS, present=FIVE, m=5, n=3), QR)

    def test_the_least_of_several(self):
        self.assertEqual(cheapest(PAIRS, FIVE), MN)
        self.assertEqual(cheapest(PAIRS, FIVE, n=1), MP)
        self.assertEqual(cheapest(PAIRS, FIVE, m=0, n=1, p=1, q=0, r=2), MQ)

    def test_no_crew_is_left(self):
        for present in ((), ('m',), ('n', 'p', 'r')):
            self.assertIsNone(cheapest(PAIRS, present, m=1))

    def test_wages_of_absent_people(self):
        self.assertEqual(cheapest(PAIRS, ('m', 'n', 'p'), n=1, q=7), MP)

    def test_people_who_are_called_like_words_of_the_program(self):
        crews = (('lost',), ('order',), ('wages',), ('width',))
        self.assertEqual(cheapest(crews, people_in(crews), lost=1, wages=1), ('order',))
        self.assertEqual(cheapest((('person',), ('wages',)), ('person', 'wages'), person=3), ('wages',))
        self.assertEqual(price_of(crews, people_in(crews), 'order', 'width', lost=3, wages=2), 2)
        self.assertEqual(price_of((('person',),), ('person',), person=3), 3)
        self.assertEqual(threshold(crews, people_in(crews), 'lost', lost=9, order=4, wages=2, width=3), 2)

    def test_unknown_people(self):
        self.unknown('x', cheapest, PAIRS, ('m', 'x', 'y'), z=1)
        self.unknown('z', cheapest, PAIRS, FIVE, m=1, z=1, a=1)
        self.unknown('a', cheapest, PAIRS, (), a=1, z=1)


class TestPriceOf(CrewTest):
    def test_prices(self):
        self.assertEqual(price_of(PAIRS, FIVE), 0)
        self.assertEqual(price_of(PAIRS, FIVE, m=2, n=3, p=4, q=5, r=6), 5)
        self.assertEqual(price_of(PAIRS, FIVE, 'n', m=2, n=3, p=4, q=5, r=6), 6)
        self.assertEqual(price_of(PAIRS, FIVE, 'm', m=2, n=3, p=4, q=5, r=6), 8)
        self.assertEqual(price_of(PAIRS, FIVE, 'n', 'm', m=2, n=3, p=4, q=5, r=6), 11)
        self.assertEqual(price_of(crews=PAIRS, present=('m', 'p'), m=10 ** 6, p=10 ** 6), 2 * 10 ** 6)

    def test_lost_people_who_are_not_present_or_lost_twice(self):
        self.assertEqual(price_of(PAIRS, ('m', 'n', 'p'), 'q', 'r', m=2, n=3, p=4), 5)
        self.assertEqual(price_of(PAIRS, FIVE, 'n', 'n', 'n', m=2, n=3, p=4, q=5, r=6), 6)
        self.assertEqual(price_of(PAIRS, ('m', 'p'), 'n', 'n', m=2, p=4), 6)

    def test_no_crew_is_left(self):
        self.assertIsNone(price_of(PAIRS, (), m=1))
        self.assertIsNone(price_of(PAIRS, FIVE, 'm', 'q', m=1))
        self.assertIsNone(price_of(PAIRS, ('m', 'n'), 'n'))

    def test_unknown_people(self):
        self.unknown('x', price_of, PAIRS, ('m', 'x', 'y'), 'w', z=1)
        self.unknown('w', price_of, PAIRS, FIVE, 'm', 'w', 'v', z=1)
        self.unknown('z', price_of, PAIRS, FIVE, 'm', m=1, z=1, a=1)
        self.unknown('a', price_of, PAIRS, FIVE, m=1, a=1, z=1)


class TestThreshold(CrewTest):
    def test_example_of_the_document(self):
        self.assertEqual([threshold(PAIRS, FIVE, 'm', q=1), threshold(PAIRS, ('m', 'n', 'p'), 'm')], [1, None])

    def test_thresholds(self):
        self.assertEqual(threshold(PAIRS, FIVE, 'm', n=2, p=3, q=4, r=5), 4)
        self.assertEqual(threshold(PAIRS, FIVE, 'r', m=9, n=9, p=9, q=9), 9)
        self.assertEqual(threshold(PAIRS, FIVE, 'm'), 0)
        self.assertEqual(threshold(PAIRS, FIVE, 'm', q=10 ** 6, n=10 ** 6), 10 ** 6)
        self.assertEqual(threshold(crews=PAIRS, present=FIVE, person='m', q=1), 1)

    def test_a_given_wage_of_the_person_has_no_effect(self):
        for wage in (0, 1, 7, 10 ** 6):
            self.assertEqual(threshold(PAIRS, FIVE, 'm', q=1, m=wage), 1)
            self.assertIsNone(threshold(PAIRS, ('m', 'n', 'p'), 'm', m=wage))
            self.assertEqual(threshold(PAIRS, FIVE, 'r', q=5, r=wage), -1)

    def test_no_wage(self):
        self.assertEqual(threshold(PAIRS, FIVE, 'r', q=1), -1)
        self.assertEqual(threshold(PAIRS, FIVE, 'r', q=1, m=1), 0)
        # No crew with the person is left, or no crew at all.
        self.assertEqual(threshold(PAIRS, ('m', 'n', 'r'), 'r'), -1)
        self.assertEqual(threshold(PAIRS, ('m',), 'm'), -1)
        self.assertEqual(threshold(PAIRS, ('n', 'p'), 'p', n=3), -1)

    def test_a_person_in_each_crew_that_is_left(self):
        self.assertIsNone(threshold(TWO, ('a', 'b', 'c'), 'a', b=1))
        self.assertIsNone(threshold(TWO, ('a', 'b'), 'b', b=1))
        self.assertEqual(threshold(TWO, ('a', 'b', 'c'), 'b', c=5), 5)

    def test_against_a_direct_search(self):
        rnd = Random(131)
        kinds = set()
        for _ in range(300):
            crews = random_crews(rnd, 'abcde', 7)
            present = tuple(person for person in people_in(crews) if rnd.random() < 0.8)
            wages = random_wages(rnd, people_in(crews), 4)
            self.assertEqual(cheapest(crews, present, **wages), next(iter(cheapest_directly(crews, present, wages)), None))
            lost = tuple(rnd.choice(people_in(crews)) for _ in range(rnd.randint(0, 3)))
            rest = tuple(person for person in present if person not in lost)
            left = cheapest_directly(crews, rest, wages)
            self.assertEqual(price_of(crews, present, *lost, **wages), price(left[0], wages) if left else None)
            for person in present:
                expected = threshold_directly(crews, present, person, wages, 30)
                self.assertEqual(threshold(crews, present, person, **wages), expected)
                kinds.add(expected)
        self.assertLessEqual({None, -1, 0, 1, 2, 3, 4, 5}, kinds)

    def test_unknown_people(self):
        self.unknown('x', threshold, PAIRS, ('m', 'x', 'y'), 'w', z=1)
        self.unknown('w', threshold, PAIRS, FIVE, 'w', z=1, a=1)
        self.unknown('z', threshold, PAIRS, FIVE, 'm', m=1, z=1, a=1)
        self.unknown('a', threshold, PAIRS, ('m',), 'm', a=1, z=1)

    def test_unknown_people_are_told_last_in_the_order_in_which_they_are_passed(self):
        for function, arguments in ((cheapest, ()), (price_of, ('n',)), (threshold, ('n',))):
            for names in permutations(('a', 'm', 'x', 'z')):
                first = [name for name in names if name != 'm'][0]
                with self.assertRaises(UnknownPerson) as caught:
                    function(PAIRS, FIVE, *arguments, **dict.fromkeys(names, 1))
                self.assertEqual(caught.exception.person, first)


class TestGoodCrews(CrewTest):
    def good_crews(self):
        return [crews for crews in all_crews('abcd', 6) if is_good(crews)] + [
            tuple((one, two) for one in 'abc' for two in 'def')]

    def test_the_cheapest_crews_are_a_book_for_width_one(self):
        rnd = Random(132)
        for crews in self.good_crews():
            for _ in range(5):
                wages = random_wages(rnd, people_in(crews), 3)
                book = tuple((people, cheapest(crews, people, **wages))
                             for people in relevant_directly(crews, people_in(crews), ()))
                self.assertEqual(lets_book(crews, people_in(crews), 1, book), len(book))

    def test_a_loss_does_not_raise_the_price_less_if_others_were_lost_before(self):
        rnd = Random(133)
        raised = []
        for crews in self.good_crews():
            people = people_in(crews)
            wages = random_wages(rnd, people, 5)
            for before in subsets(people):
                for earlier in subsets(before):
                    lost = rnd.choice(people)
                    if lost not in before and left_in(crews, tuple(set(people) - set(before) - {lost})):
                        less = price_of(crews, people, *earlier, lost, **wages) - price_of(crews, people, *earlier, **wages)
                        more = price_of(crews, people, *before, lost, **wages) - price_of(crews, people, *before, **wages)
                        self.assertLessEqual(less, more)
                        raised.append(more > less)
        self.assertEqual(set(raised), {True, False})

    def test_the_threshold_is_the_least_wage_of_those_who_can_take_the_place(self):
        rnd = Random(134)
        checked = 0
        for crews in self.good_crews():
            people = people_in(crews)
            wages = {person: rnd.randint(0, 4) for person in people}
            for person in people:
                wage = threshold(crews, people, person, **wages)
                with_person = [crew for crew in cheapest_directly(crews, people, {**wages, person: 0}) if person in crew]
                if wage is not None and wage >= 0 and with_person:
                    rest = set(with_person[0]) - {person}
                    partners = [other for other in people
                                if other not in with_person[0] and tuple(sorted(rest | {other})) in crews]
                    self.assertEqual(wage, min(wages[other] for other in partners))
                    checked += 1
        self.assertGreater(checked, 50)

    def test_crews_that_are_not_good_may_raise_less(self):
        people = people_in(FOUR)
        self.assertEqual([price_of(FOUR, people, *lost, c=1, d=1) for lost in ((), ('a',), ('a', 'b'))], [0, 2, 2])


if __name__ == '__main__':
    unittest.main()
