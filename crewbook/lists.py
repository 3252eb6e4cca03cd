"""Lists of crews, given by themselves or by what the crews are made of."""

from crewbook.crewreadings import crews_read
from crewbook.crewchecker import lets_crews
from crewbook.crewsets import contains, people_of
from crewbook.crewtexts import crew_lines, set_text
from crewbook.entrychecks import check_apart, check_groups, check_posts, check_shape, check_ties
from crewbook.exchanges import all_exchange
from crewbook.fillings import checked_crews, group_crews, joined_crews, post_crews, web_crews
from crewbook.losses import crews_left
from crewbook.words import entries_read

GROUP_FORM = ("group", "NUMBER", "PEOPLE")
POST_FORM = ("post", "PEOPLE")
TIE_FORM = ("tie", "NAME", "NAME", "NAME")


def common_size(crews):
    """Return the number of members of each crew, or None if it is not the same for all."""
    sizes = [len(crew) for crew in crews]
    return sizes[0] if min(sizes) == max(sizes) else None


class Crews:
    """A list of the given crews; the base class of all lists of crews."""

    MOST = 12

    def __init__(self, *crews):
        lets_crews(crews)
        self._crews = checked_crews(crews, self.MOST)

    @property
    def crews(self):
        return self._crews

    @property
    def people(self):
        return people_of(self._crews)

    @property
    def size(self):
        return common_size(self._crews)

    @property
    def is_good(self):
        return all_exchange(self._crews)

    def left(self, present):
        return crews_left(self._crews, present)

    def lines(self):
        return tuple(crew_lines(self._crews))

    @classmethod
    def read(cls, text):
        crews = crews_read(text)
        return cls(*crews)

    @staticmethod
    def minimal(*sets):
        """Return the sets that contain no different one of them."""
        return tuple(sorted({
            people for people in sets
            if not any([other != people and contains(people, other) for other in sets])
        }))

    def __len__(self):
        return len(self._crews)

    def __eq__(self, other):
        return isinstance(other, Crews) and self._crews == other._crews


class Groups(Crews):
    """The crews with a number of people of each group, in every possible way."""

    def __init__(self, *groups):
        check_groups(groups)
        self._groups = groups
        self._crews = group_crews(groups, self.MOST)

    @property
    def crews(self):
        return self._crews

    @property
    def people(self):
        return people_of(self._crews)

    @property
    def size(self):
        return common_size(self._crews)

    @property
    def is_good(self):
        return all_exchange(self._crews)

    def left(self, present):
        return crews_left(self._crews, present)

    def lines(self):
        entries = [f"group {number} {set_text(people)}" for number, people in self._groups]
        return tuple(entries + crew_lines(self._crews))

    @classmethod
    def read(cls, text):
        groups = entries_read(text, GROUP_FORM)
        return cls(*groups)

    def __len__(self):
        return len(self._crews)

    def __eq__(self, other):
        return isinstance(other, Crews) and self._crews == other._crews


class Posts(Crews):
    """The sets that fill all posts with one of their members each, every member used once."""

    def __init__(self, *posts):
        check_posts(posts)
        self._posts = posts
        self._crews = post_crews(posts, self.MOST)

    @property
    def crews(self):
        return self._crews

    @property
    def people(self):
        return people_of(self._crews)

    @property
    def size(self):
        return common_size(self._crews)

    @property
    def is_good(self):
        return all_exchange(self._crews)

    def left(self, present):
        return crews_left(self._crews, present)

    def lines(self):
        entries = [f"post {set_text(people)}" for people in self._posts]
        return tuple(entries + crew_lines(self._crews))

    @classmethod
    def read(cls, text):
        entries = entries_read(text, POST_FORM)
        posts = [entry[0] for entry in entries]
        return cls(*posts)

    def __len__(self):
        return len(self._crews)

    def __eq__(self, other):
        return isinstance(other, Crews) and self._crews == other._crews


class Webs(Crews):
    """The least sets of persons whose ties join all ends."""

    def __init__(self, *ties):
        check_ties(ties)
        self._ties = ties
        self._crews = web_crews(ties, self.MOST)

    @property
    def crews(self):
        return self._crews

    @property
    def people(self):
        return people_of(self._crews)

    @property
    def size(self):
        return common_size(self._crews)

    @property
    def is_good(self):
        return all_exchange(self._crews)

    def left(self, present):
        return crews_left(self._crews, present)

    def lines(self):
        entries = [f"tie {person} {end} {other}" for person, end, other in self._ties]
        return tuple(entries + crew_lines(self._crews))

    @classmethod
    def read(cls, text):
        ties = entries_read(text, TIE_FORM)
        return cls(*ties)

    def __len__(self):
        return len(self._crews)

    def __eq__(self, other):
        return isinstance(other, Crews) and self._crews == other._crews


class Joined(Crews):
    """The crews that contain one crew of each list."""

    def __init__(self, *lists):
        check_shape(lists, [isinstance(entry, Crews) for entry in lists])
        check_apart([entry.people for entry in lists])
        self._counts = tuple([len(entry) for entry in lists])
        self._crews = joined_crews([entry.crews for entry in lists], self.MOST)

    @property
    def crews(self):
        return self._crews

    @property
    def people(self):
        return people_of(self._crews)

    @property
    def size(self):
        return common_size(self._crews)

    @property
    def is_good(self):
        return all_exchange(self._crews)

    def left(self, present):
        return crews_left(self._crews, present)

    def lines(self):
        entries = [f"join {count}" for count in self._counts]
        return tuple(entries + crew_lines(self._crews))

    def __len__(self):
        return len(self._crews)

    def __eq__(self, other):
        return isinstance(other, Crews) and self._crews == other._crews
