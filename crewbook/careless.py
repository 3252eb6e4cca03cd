"""Careless situations: the duty goes on as long as a crew is left, whichever answers are taken."""

from crewbook.crewsets import check_people
from crewbook.lossmoves import careless_situations, loss_moves


def is_careless(crews, present, crew, width, *, kept=()):
    check_people(crews, present, crew, kept)
    return careless_situations(loss_moves(crews, present, width, kept))[(present, crew)]
