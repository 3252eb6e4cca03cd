"""The checker of careless papers."""

from crewbook.crewsets import check_people, crews_within, without_person
from crewbook.errors import InvalidPaper
from crewbook.kinds import is_marked, is_name, is_pair_of_name_tuples, is_tuple_of_names
from crewbook.losses import loss_word, next_crews
from crewbook.situationrows import check_situations, check_start


def lets_careless(crews, present, crew, width, thing, *, kept=()):
    """Return True for any value that is a paper for a careless situation, False for one for another situation."""
    check_people(crews, present, crew, kept)
    if is_careless_shape(thing):
        check_situations(crews, thing[1])
        check_start(thing[1], present, crew)
        check_losses(crews, thing[1], width, kept)
        return True
    if is_stuck_shape(thing):
        people, last = situation_after(crews, (present, crew), thing[1], width, kept)
        check_stuck(crews, people, last, thing[2], width, kept)
        return False
    raise InvalidPaper("shape", -1)


def is_careless_shape(thing):
    if not is_marked(thing, "careless", 2) or not isinstance(thing[1], tuple):
        return False
    return all([is_pair_of_name_tuples(row) for row in thing[1]])


def is_stuck_shape(thing):
    if not is_marked(thing, "stuck", 3) or not isinstance(thing[1], tuple):
        return False
    return all([is_step(step) for step in thing[1]]) and is_name(thing[2])


def is_step(thing):
    if not isinstance(thing, tuple) or len(thing) != 2 or not is_name(thing[0]):
        return False
    return thing[1] is None or is_tuple_of_names(thing[1])


def check_losses(crews, rows, width, kept):
    known = {row: True for row in rows}
    for k, (people, crew) in enumerate(rows):
        losable = [person for person in people if person not in kept]
        for i, lost in enumerate(losable):
            rest = without_person(people, lost)
            nexts = next_crews(crews, rest, crew, lost, width)
            # Where no crew is left, the loss ends the duty, and nothing is asked of it.
            if crews_within(crews, rest) and not (nexts and all([(rest, other) in known for other in nexts])):
                raise InvalidPaper("loss", (k, i))


def situation_after(crews, start, way, width, kept):
    """Return the situation after a way from the start, or raise InvalidPaper."""
    people, crew = start
    for i, (lost, answer) in enumerate(way):
        if lost not in people or lost in kept or loss_word(crews, people, crew, lost, width) == "over":
            raise InvalidPaper("lost", i)
        rest = without_person(people, lost)
        stays = lost not in crew
        if (answer is None) != stays or not stays and answer not in next_crews(crews, rest, crew, lost, width):
            raise InvalidPaper("answer", i)
        people = rest
        crew = crew if stays else answer
    return people, crew


def check_stuck(crews, people, crew, lost, width, kept):
    if lost not in people or lost in kept or loss_word(crews, people, crew, lost, width) != "stuck":
        raise InvalidPaper("end", -1)
