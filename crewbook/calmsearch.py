"""The search for calm situations. A situation is a pair (present, crew)."""

from crewbook.crewsets import crews_within, without_person
from crewbook.losses import next_crews
from crewbook.pagerules import relevant_sets


class CalmSearch:
    """Which of the situations that losses can leave of some present people are calm."""

    def __init__(self, crews, present, width, kept):
        self._listed = crews
        self._width = width
        self._kept = kept
        self._calm = {}
        # Sets of fewer people come first, so that it is already known what follows a loss.
        for people in sorted(relevant_sets(crews, present, kept), key=len):
            for crew in crews_within(crews, people):
                self._calm[(people, crew)] = self.unsafe_loss((people, crew)) is None

    def has_calm(self, situation):
        return self._calm[situation]

    def unsafe_loss(self, situation):
        """Return the first person whose loss neither ends the duty nor leads to a calm situation, or None."""
        people, crew = situation
        for lost in self.losable(people):
            if crews_within(self._listed, without_person(people, lost)) and not self.calm_after(situation, lost):
                return lost
        return None

    def losable(self, people):
        return [person for person in people if person not in self._kept]

    def after_loss(self, situation, lost):
        """Return the situations to which the loss leads: none if it ends the duty or is stuck."""
        people, crew = situation
        rest = without_person(people, lost)
        return [(rest, other) for other in next_crews(self._listed, rest, crew, lost, self._width)]

    def calm_after(self, situation, lost):
        return [following for following in self.after_loss(situation, lost) if self._calm[following]]
