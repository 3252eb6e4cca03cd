"""Reading lines of words that single spaces separate."""

from crewbook.errors import InvalidText
from crewbook.kinds import is_name, is_set

MOST_DIGITS = 60


def number_read(word):
    """Return the number that a word writes, or None."""
    if not 1 <= len(word) <= MOST_DIGITS or not all(["0" <= digit <= "9" for digit in word]):
        return None
    if word[0] == "0" and word != "0":
        return None
    return int(word)


def people_read(word):
    """Return the set that a word writes, or None."""
    if word == "-":
        return ()
    people = tuple(word.split(","))
    return people if is_set(people) else None


def value_read(kind, word):
    """Return what a word means as a word of the kind, or None if it is not possible there."""
    if kind == "NUMBER":
        return number_read(word)
    if kind == "PEOPLE":
        return people_read(word)
    if kind == "CREW":
        return people_read(word) or None
    if kind == "NAME":
        return word if is_name(word) else None
    return word if word == kind else None


def line_read(line, number, form):
    """Return what the words of the line with this number mean; the form has a kind for each of them."""
    found = []
    for at, word in enumerate(line.split(" ")):
        value = value_read(form[at], word) if at < len(form) else None
        if value is None:
            raise InvalidText(number, at)
        found.append(value)
    if len(found) < len(form):
        raise InvalidText(number, len(found))
    return tuple(found)


def entries_read(text, form):
    """Return what the lines of a text mean, each without its first word."""
    return tuple([line_read(line, number, form)[1:] for number, line in enumerate(text.split("\n"))])
