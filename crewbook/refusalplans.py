"""The search for refusal trees: which few sets leave no book with the known pages."""

from crewbook.bookplans import BookPlan


class RefusalPlan(BookPlan):
    """The search for refusal trees of situations with some present people.

    Known pages are choices of one crew each. A part is a list of sets without a known page, by their indexes.
    """

    def known_page(self, present, crew):
        return self.with_page({}, self._sets.index(present), crew)

    def others(self, known):
        """Return the part of all sets without a known page, the smallest ones first."""
        return sorted([n for n in range(len(self._sets)) if n not in known], key=lambda n: len(self._sets[n]))

    def fits(self, known, part):
        """Return whether the sets of the part can have pages that fit to the known ones and to each other."""
        choices = {**known, **{n: self._whole[n] for n in part}}
        start = self.narrowed(choices, list(choices))
        for _ in self.settled(start):
            return True
        return False

    def needed(self, known, part):
        """Return a part of the part that still does not fit, but fits if any set is left out."""
        needed = part
        size = len(part)
        # Large pieces are tried first: mostly only a few sets are needed.
        while size > 0:
            needed = self.without_pieces(known, needed, size)
            size = size // 2
        return needed

    def without_pieces(self, known, part, size):
        """Return the part without those of its pieces, of this size each, that are not needed."""
        at = 0
        while at < len(part):
            fewer = part[:at] + part[at + size:]
            if self.fits(known, fewer):
                at += size
            else:
                part = fewer
        return part

    def allowed(self, known, n):
        """Return the choice of the crews that the known pages allow for set n."""
        choice = self._whole[n]
        for m, person, is_loss in self._links[n]:
            if m in known and not is_loss:
                choice &= self.partners(known[m], person, True)
        return choice

    def next_set(self, known, part):
        """Return a set of the part with as few allowed crews as possible, of those that may be next.

        A known page restricts smaller sets only, so a set waits for the larger ones of the part.
        """
        ready = [n for n in part if not self.has_larger(part, n)]
        counts = [(len(self.crews_of(self.allowed(known, n))), at) for at, n in enumerate(ready)]
        return ready[min(counts)[1]]

    def has_larger(self, part, n):
        return any([m in part and not is_loss for m, person, is_loss in self._links[n]])

    def node(self, known, part):
        """Return the node of a part that does not fit, as (steps, set of the end, branches).

        Each branch is (crew, known, part): what is left to be done with the crew on the page of the set.
        """
        part = self.needed(known, part)
        steps = []
        while True:
            n = self.next_set(known, part)
            fitting = self.crews_of(self.allowed(known, n))
            part = [m for m in part if m != n]
            if len(fitting) != 1:
                break
            steps.append((self._sets[n], fitting[0]))
            known = self.with_page(known, n, fitting[0])
        branches = [(crew, self.with_page(known, n, crew), part) for crew in fitting]
        return tuple(steps), self._sets[n], branches

    def with_page(self, known, n, crew):
        return {**known, n: 1 << self._listed.index(crew)}
