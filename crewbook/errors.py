"""All errors of the package."""


class CrewError(ValueError):
    """The base class of all errors."""


class PaperError(CrewError):
    """The family of the errors about papers."""


class TeamError(CrewError):
    """The family of the errors about people and watches."""


class TextError(CrewError):
    """The family of the errors about texts."""


class InvalidPaper(PaperError):
    """A value is not as stated: the word says what is wrong, at says where."""

    def __init__(self, word, at):
        self.word = word
        self.at = at


class UnknownPerson(TeamError):
    """A person is not one of the people of the crews."""

    def __init__(self, person):
        self.person = person


class InvalidEvent(TeamError):
    """An event is not possible, for the reason."""

    def __init__(self, event, reason):
        self.event = event
        self.reason = reason


class InvalidWidth(TeamError):
    """A value is not a width."""

    def __init__(self, width):
        self.width = width


class NothingToUndo(TeamError):
    """No event is there that could be undone."""

    def __init__(self, steps):
        self.steps = steps


class InvalidText(TextError):
    """A text cannot be read: in this line, from this word on."""

    def __init__(self, line, field):
        self.line = line
        self.field = field


class InvalidRow(TextError):
    """A desk does not know what a row means."""

    def __init__(self, row):
        self.row = row
