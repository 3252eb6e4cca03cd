"""The search for books: what each page may still say when some pages are fixed."""

from crewbook.crewsets import contains, without_person
from crewbook.pagerules import leads_to, relevant_sets


class BookPlan:
    """The choices that the pages of all books for some people have.

    A choice is an int with a bit for each crew that a page may still have; it is not 0. Choices are a dict
    with one for each relevant set, by the index of the set, or for some of these sets: then the pages of the
    others do not matter. They are narrow if each crew of a choice has a partner in the choice for each
    neighbour of the set: a crew so that a loss leads from the one to the other.
    """

    def __init__(self, crews, present, width, kept):
        self._listed = crews
        self._width = width
        self._sets = relevant_sets(crews, present, kept)
        self._whole = [self.choice_of(people) for people in self._sets]
        self._links = set_links(self._sets)
        self._partners = {}

    def start(self, present, first):
        """Return the narrow choices for books with first for present (any crew if it is None), or None."""
        choices = {n: choice for n, choice in enumerate(self._whole)}
        if first is not None:
            if first not in self._listed or not contains(present, first):
                return None
            choices[self._sets.index(present)] = 1 << self._listed.index(first)
        return self.narrowed(choices, list(choices))

    def choice_of(self, people):
        """Return the choice of all crews that are left in a set."""
        return sum([1 << k for k, crew in enumerate(self._listed) if contains(people, crew)])

    def narrowed(self, choices, changed):
        """Return the greatest narrow choices within these, or None. The choices at changed lost some crews."""
        narrow = {n: choices[n] for n in choices}
        waiting = list(changed)
        while waiting:
            n = waiting.pop()
            for m, fitting in self.fitting_choices(narrow, n):
                if fitting == 0:
                    return None
                if fitting != narrow[m]:
                    narrow[m] = fitting
                    waiting.append(m)
        return narrow

    def fitting_choices(self, choices, n):
        """Return what choice n leaves of the choices for the neighbours of its set, as (index, crews)."""
        return [
            (m, choices[m] & self.partners(choices[n], person, is_loss))
            for m, person, is_loss in self._links[n] if m in choices
        ]

    def partners(self, choice, person, is_loss):
        """Return all partners of the crews of a choice if the person is lost, or if the person was not yet."""
        key = (choice, person, is_loss)
        if key not in self._partners:
            chosen = self.crews_of(choice)
            self._partners[key] = sum([
                1 << k for k, crew in enumerate(self._listed)
                if any([self.is_partner(crew, other, person, is_loss) for other in chosen])
            ])
        return self._partners[key]

    def is_partner(self, crew, other, person, is_loss):
        if is_loss:
            return leads_to(other, person, crew, self._width)
        return leads_to(crew, person, other, self._width)

    def crews_of(self, choice):
        return [crew for k, crew in enumerate(self._listed) if choice >> k & 1]

    def branches(self, choices, n):
        """Return the narrow choices within these for each crew of choice n, in ascending order of the crews."""
        found = []
        for k in range(len(self._listed)):
            if choices[n] >> k & 1:
                found.append(self.narrowed({**choices, n: 1 << k}, [n]))
        return [narrow for narrow in found if narrow is not None]

    def settled(self, start):
        """Yield all choices within the narrow ones that have one crew each and are narrow, in ascending order."""
        waiting = [] if start is None else [start]
        while waiting:
            choices = waiting.pop()
            n = first_open(choices)
            if n is None:
                yield choices
            else:
                # The choices with the least crew are taken next, so that the results ascend.
                waiting.extend(self.branches(choices, n)[::-1])

    def book(self, choices):
        """Return the book of choices with one crew each."""
        return tuple([(people, self.crews_of(choices[n])[0]) for n, people in enumerate(self._sets)])


def set_links(sets):
    """Return for each of the sets its neighbours, as (index, person, whether the person's loss leads there)."""
    # Kept people are in all of the sets, so no loss of one of them leads from set to set.
    places = {people: n for n, people in enumerate(sets)}
    links = [[] for people in sets]
    for n, people in enumerate(sets):
        for person in people:
            rest = without_person(people, person)
            if rest in places:
                links[n].append((places[rest], person, True))
                links[places[rest]].append((n, person, False))
    return links


def first_open(choices):
    """Return the index of the first choice with several crews, or None."""
    for n, choice in choices.items():
        if choice & (choice - 1) != 0:
            return n
    return None
