"""Calm situations: whatever is lost, the duty can go on calmly as long as a crew is left."""

from crewbook.crewsets import check_people, crews_within, without_person
from crewbook.lossmoves import calm_situations, loss_moves
from crewbook.losses import answers


def is_calm(crews, present, crew, width, *, kept=()):
    check_people(crews, present, crew, kept)
    return calm_situations(loss_moves(crews, present, width, kept))[(present, crew)]


def calm_crews(crews, present, width, *, kept=()):
    """Return the crews left with which the situation is calm."""
    check_people(crews, present, kept)
    calm = calm_situations(loss_moves(crews, present, width, kept))
    return tuple([crew for crew in crews_within(crews, present) if calm[(present, crew)]])


def safe_answers(crews, present, crew, lost, width, *, kept=()):
    """Return the answers to the loss with which the next situation is calm."""
    check_people(crews, present, crew, (lost,), kept)
    rest = without_person(present, lost)
    calm = calm_situations(loss_moves(crews, rest, width, kept))
    return tuple([other for other in answers(crews, present, crew, lost, width) if calm[(rest, other)]])
