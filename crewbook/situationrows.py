"""What the rows of several kinds of papers have in common: each begins with a situation."""

from crewbook.errors import InvalidPaper
from crewbook.losses import is_situation


def check_situations(crews, rows):
    """Raise InvalidPaper for the first row that does not begin with a situation, or not with a greater one."""
    for k, row in enumerate(rows):
        if not is_situation(crews, row[:2]):
            raise InvalidPaper("situation", k)
        if k > 0 and not rows[k - 1][:2] < row[:2]:
            raise InvalidPaper("rise", k)


def check_start(rows, present, crew):
    if (present, crew) not in [row[:2] for row in rows]:
        raise InvalidPaper("start", -1)
