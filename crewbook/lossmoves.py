"""Where losses lead, and which situations are calm or careless by that. A situation is a pair (present, crew)."""

from crewbook.crewsets import crews_within, without_person
from crewbook.losses import next_crews
from crewbook.pagerules import relevant_sets


def loss_moves(crews, present, width, kept):
    """Return all situations that losses can leave of the present people, those of fewer people first.

    Each has a dict of the losses that do not end the duty, with a list of the situations to which a loss leads:
    none if it is stuck.
    """
    moves = {}
    for people in sorted(relevant_sets(crews, present, kept), key=len):
        for crew in crews_within(crews, people):
            moves[(people, crew)] = moves_from(crews, people, crew, width, kept)
    return moves


def moves_from(crews, people, crew, width, kept):
    found = {}
    for lost in people:
        rest = without_person(people, lost)
        if lost not in kept and crews_within(crews, rest):
            found[lost] = [(rest, other) for other in next_crews(crews, rest, crew, lost, width)]
    return found


def calm_situations(moves):
    """Return for each of the situations whether it is calm."""
    calm = {}
    # Those of fewer people come first, so that it is already known what follows a loss.
    for situation, losses in moves.items():
        calm[situation] = all([any([calm[following] for following in nexts]) for nexts in losses.values()])
    return calm


def careless_situations(moves):
    """Return for each of the situations whether it is careless."""
    careless = {}
    for situation, losses in moves.items():
        careless[situation] = all([
            len(nexts) > 0 and all([careless[following] for following in nexts]) for nexts in losses.values()
        ])
    return careless
