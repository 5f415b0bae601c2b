"""Matches: asking helpers, one family behind the other, until the stand is good."""

from nonames.errors import BadMove, BadPick, NoPlan, NothingToUndo
from nonames.families import Family
from nonames.plans import good_groups


class Match:
    """A match from a start to good groups; it goes on by asks and answers, which can be taken back."""

    def __init__(self, lattice, start, good, helpers):
        self.lattice = lattice
        self.good = tuple(good)
        self.helpers = tuple(helpers)
        # The present stand, the waiting family with the index of its helper, and the history.
        self._state = (start, None, None, ())
        self._past = ()

    @classmethod
    def from_structure(cls, lattice, source, number, goal, *, helpers):
        """Return the match from the stabilizer of a structure to the good groups of a goal."""
        start = lattice.number(source.stabilizer(number))
        return cls(lattice, start, good_groups(lattice, goal), helpers)

    @property
    def current(self):
        """The number of the present stand."""
        return self._state[0]

    @property
    def over(self):
        """Whether the present stand is good."""
        return self._state[0] in self.good

    @property
    def waiting(self):
        """The family that waits, or None."""
        return self._state[1]

    def _go_on(self, state):
        """Go on to a state, from which undo leads back to the present one."""
        self._past = self._past + (self._state,)
        self._state = state

    def _allows(self, base, k, lot):
        """Tell whether this can be asked now."""
        if self.over or self.waiting is not None or not 0 <= k < len(self.helpers):
            return False
        return Family.fits(self.lattice, self.current, base, self.helpers[k], lot)

    def ask(self, base, k, parts):
        """Return the family of helper k at the present stand, which now waits, or raise BadMove."""
        lot = tuple(parts)
        if not self._allows(base, k, lot):
            raise BadMove((base, k, lot))
        family = Family(self.lattice, self.current, base, self.helpers[k], lot)
        self._go_on((self.current, family, k, self._state[3]))
        return family

    def answer(self, picks):
        """Answer the waiting family and return the new stand, or raise BadPick."""
        chosen = tuple(picks)
        _, family, k, rounds = self._state
        if family is None or chosen not in family:
            raise BadPick(chosen)
        stand = family.new_stand(chosen)
        self._go_on((stand, None, None, rounds + ((family.base, k, family.parts, chosen, stand),)))
        return stand

    def undo(self):
        """Take back the last ask or answer that has not been taken back, or raise NothingToUndo."""
        if not self._past:
            raise NothingToUndo(None)
        self._state = self._past[-1]
        self._past = self._past[:-1]

    def history(self):
        """Return what was asked and answered, and the new stands, without what has been taken back."""
        return list(self._state[3])


def row_at(plan, stand):
    """Return the first row of a plan for this stand, or raise NoPlan."""
    for row in plan:
        if row[0] == stand:
            return row
    raise NoPlan(stand)


def play_plan(match, plan, picker):
    """Ask by the plan until the match is over and return all stands, or raise NoPlan."""
    stands = [match.current]
    while not match.over:
        _, base, k, parts = row_at(plan, stands[-1])
        family = match.ask(base, k, parts)
        stand = match.answer(picker(family))
        if stand == stands[-1]:
            raise NoPlan(stand)
        stands.append(stand)
    return stands


def trial(match, plan, picker):
    """Do what `play_plan` does, but leave the match as it was before."""
    state = match._state
    past = match._past
    try:
        return play_plan(match, plan, picker)
    finally:
        match._state = state
        match._past = past
