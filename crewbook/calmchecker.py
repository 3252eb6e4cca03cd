"""The checker of calm papers."""

from crewbook.crewsets import check_people, crews_within, without_person
from crewbook.errors import InvalidPaper
from crewbook.kinds import is_marked, is_name, is_pair_of_name_tuples, is_tuple_of_names
from crewbook.losses import next_crews
from crewbook.situationrows import check_situations, check_start


def lets_calm(crews, present, crew, width, thing, *, kept=()):
    """Return True for any value that is a paper for a calm situation, False for one for another situation."""
    check_people(crews, present, crew, kept)
    if not is_paper(thing):
        raise InvalidPaper("shape", -1)
    word, rows = thing
    check_situations(crews, rows)
    check_start(rows, present, crew)
    rules = RowRules(crews, width, kept, rows)
    for k, row in enumerate(rows):
        if word == "calm":
            rules.check_followers(k, row)
        else:
            rules.check_loss(k, row)
    return word == "calm"


def is_paper(thing):
    """Return whether any value is a calm paper by its kind alone."""
    if is_marked(thing, "calm", 2):
        return is_tuple_of_rows(thing[1]) and all([is_followers(row[2]) for row in thing[1]])
    return is_marked(thing, "not", 2) and is_tuple_of_rows(thing[1]) and all([is_name(row[2]) for row in thing[1]])


def is_tuple_of_rows(thing):
    return isinstance(thing, tuple) and all([is_row(row) for row in thing])


def is_row(thing):
    return isinstance(thing, tuple) and len(thing) == 3 and is_pair_of_name_tuples(thing[:2])


def is_followers(thing):
    return isinstance(thing, tuple) and all([entry is None or is_tuple_of_names(entry) for entry in thing])


class RowRules:
    """What the rows of a calm paper must keep to."""

    def __init__(self, crews, width, kept, rows):
        self._listed = crews
        self._width = width
        self._kept = kept
        self._situations = {row[:2]: True for row in rows}

    def has_row(self, people, crew):
        return (people, crew) in self._situations

    def check_followers(self, k, row):
        people, crew, followers = row
        losable = [person for person in people if person not in self._kept]
        if len(followers) != len(losable):
            raise InvalidPaper("many", k)
        for i, lost in enumerate(losable):
            rest = without_person(people, lost)
            if not self.is_follower(rest, crew, lost, followers[i]):
                raise InvalidPaper("follower", (k, i))

    def is_follower(self, rest, crew, lost, follower):
        """Return whether the follower does the duty after the loss and has a row, or is None if the duty is over."""
        if not crews_within(self._listed, rest):
            return follower is None
        return follower in next_crews(self._listed, rest, crew, lost, self._width) and self.has_row(rest, follower)

    def check_loss(self, k, row):
        people, crew, lost = row
        rest = without_person(people, lost)
        if lost not in people or lost in self._kept or not crews_within(self._listed, rest):
            raise InvalidPaper("lost", k)
        nexts = next_crews(self._listed, rest, crew, lost, self._width)
        if not all([self.has_row(rest, other) for other in nexts]):
            raise InvalidPaper("next", k)
