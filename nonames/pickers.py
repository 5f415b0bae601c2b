"""Pickers: they answer families."""

from nonames.families import digits_of


def least_picking(family):
    """Return the picking with the least answer at each place."""
    return tuple([family.answers[0] for _ in family.places])


class Picker:
    """A picker that always gives the least answers; `asked` tells how many families it has answered."""

    def __init__(self):
        self.asked = 0

    def __call__(self, family):
        picks = self.pick(family)
        self.asked = self.asked + 1
        return picks

    def pick(self, family):
        """Return the picking with the least answer at each place."""
        return least_picking(family)


class DrawnPicker(Picker):
    """A picker whose answers are the digits of a number that grows with each family."""

    def __init__(self, number):
        Picker.__init__(self)
        self.seed = number

    def pick(self, family):
        """Return the picking in which place 0 has the answer for the lowest digit, and so on."""
        digits = digits_of(self.seed + self.asked, len(family.answers), len(family.places))
        return tuple([family.answers[digit] for digit in digits])


class StubbornPicker(Picker):
    """A picker that gives answers which one group leaves alone, as long as it can."""

    def __init__(self, number):
        Picker.__init__(self)
        self.chosen = number

    def pick(self, family):
        """Return the picking that the chosen group leaves alone if there is one, otherwise the least answers."""
        if not family.lattice.holds(family.stand, self.chosen):
            return least_picking(family)
        picks = family.picking_for(self.chosen)
        return least_picking(family) if picks is None else picks
