"""Families: a helper that is asked at all places to which the members of a stand carry a lot."""

from nonames.cosets import cosets_in
from nonames.counting import power_up_to
from nonames.errors import BadMove, BadPick
from nonames.helpers import answer_space


def digits_of(number, base, many):
    """Return the `many` lowest digits of a number in a base, the lowest one first."""
    digits = []
    left = number
    for _ in range(many):
        digits.append(left % base)
        left = left // base
    return digits


def least_members(world, part, group):
    """Return a dict from each member of a group to the least member of its coset of a part."""
    return {member: coset[0] for coset in cosets_in(world, part, group) for member in coset}


class Family:
    """A helper that is asked at a stand, about the lot of the parts under the base, carried to all places."""

    def __init__(self, lattice, stand, base, helper, parts):
        self.lattice = lattice
        self.stand = stand
        self.base = base
        self.helper = helper
        self.parts = tuple(parts)
        if not self.fits(lattice, stand, base, helper, self.parts):
            raise BadMove((base, helper, self.parts))
        self._space = answer_space(helper)
        self.answers = tuple(range(helper[1])) if self._space is None else self._space.structures
        group = lattice.groups[stand]
        cosets = cosets_in(lattice.world, lattice.groups[base], group)
        self.places = tuple([coset[0] for coset in cosets])
        self._goals = {member: place for place, coset in enumerate(cosets) for member in coset}
        self._leasts = [least_members(lattice.world, lattice.groups[part], group) for part in self.parts]
        self._fibres = [tuple(sorted({(i, least[member]) for i, least in enumerate(self._leasts) for member in coset}))
                        for coset in cosets]
        # Each row of answers is asked for again and again, so it is kept when it is first made.
        self._rows = {}

    @staticmethod
    def fits(lattice, stand, base, helper, parts):
        """Tell whether there is a family of this helper at the stand, with this base and these parts."""
        if not lattice.holds(stand, base):
            return False
        if not all([lattice.holds(base, part) for part in parts]):
            return False
        return sum([lattice.ratio(base, part) for part in parts]) == helper[1]

    def __contains__(self, picks):
        return len(picks) == len(self.places) and all([pick in self.answers for pick in picks])

    def fibre(self, k):
        """Return the things of a place, as ascending pairs of the index of a part and a least member."""
        return self._fibres[k]

    def _goal(self, k, renaming):
        """Return the place to which a member of the stand moves a place."""
        return self._goals[self.lattice.world.then(self.places[k], renaming)]

    def _moved_things(self, k, renaming):
        """Return the numbers that the things of a place have at the place to which a member moves them."""
        world = self.lattice.world
        goal = self._fibres[self._goal(k, renaming)]
        moved = [(i, self._leasts[i][world.then(least, renaming)]) for i, least in self._fibres[k]]
        return tuple([goal.index(thing) for thing in moved])

    def _answer_row(self, k, renaming):
        """Return, for the number of each answer at a place, that of the answer to which a member moves it."""
        if (k, renaming) not in self._rows:
            row = self._moved_things(k, renaming)
            self._rows[(k, renaming)] = row if self._space is None else self._space.moves[self._space.world.number(row)]
        return self._rows[(k, renaming)]

    def carried(self, k, answer, renaming):
        """Return the place and the answer to which a member of the stand moves a place and an answer at it."""
        row = self._answer_row(k, renaming)
        return (self._goal(k, renaming), self.answers[row[self.answers.index(answer)]])

    def _leaves(self, picks, renaming):
        """Tell whether a member of the stand leaves a picking alone."""
        moved = [self.carried(k, pick, renaming) for k, pick in enumerate(picks)]
        return all([picks[place] == answer for place, answer in moved])

    def new_stand(self, picks):
        """Return the number of the group of the members of the stand that leave a picking alone."""
        chosen = tuple(picks)
        if chosen not in self:
            raise BadPick(chosen)
        return self.lattice.number([member for member in self.lattice.groups[self.stand]
                                    if self._leaves(chosen, member)])

    def count_pickings(self):
        """Return the number of all pickings."""
        return power_up_to(len(self.answers), len(self.places), None)

    def picking_at(self, number):
        """Return the picking with this number, from 0, in ascending order."""
        digits = digits_of(number, len(self.answers), len(self.places))
        return tuple([self.answers[digit] for digit in digits[::-1]])

    def pickings(self):
        """Yield all pickings in ascending order."""
        for number in range(self.count_pickings()):
            yield self.picking_at(number)

    def rests(self, k, number):
        """Return the resting answers of a group, which the stand holds, at a place."""
        staying = [member for member in self.lattice.groups[number] if self._goal(k, member) == k]
        rows = [self._answer_row(k, member) for member in staying]
        return [answer for at, answer in enumerate(self.answers) if all([row[at] == at for row in rows])]

    def kept(self, number):
        """Tell whether a group, which the stand holds, has a resting answer at each place."""
        # A member g moves the first place to each other one; what rests there under the group is moved there from
        # what rests at the first place under the group, carried back by g. Only members of the base stay there.
        lattice = self.lattice
        carried = [lattice.carried(number, lattice.world.inverse(member)) for member in self.places]
        staying = sorted({lattice.meet(self.base, other) for other in carried})
        return all([self.rests(0, other) for other in staying])

    def picking_for(self, number):
        """Return the picking that a group leaves alone if it is kept, otherwise None."""
        picks = {}
        for k in range(len(self.places)):
            if k not in picks:
                resting = self.rests(k, number)
                if not resting:
                    return None
                for member in self.lattice.groups[number]:
                    place, answer = self.carried(k, resting[0], member)
                    picks[place] = answer
        return tuple([picks[k] for k in range(len(self.places))])
