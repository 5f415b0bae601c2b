"""A second reading of points 79 to 83, 96 and 102, straight from their words."""

from itertools import product
from slow import slow_list, slow_rename


def slow_answers(helper):
    return list(range(helper[1])) if helper[0] == "pick" else slow_list((helper[1],), helper[2])


def slow_carry(helper, answer, row):
    """The answer after thing t has become thing row[t]."""
    return row[answer] if helper[0] == "pick" else slow_rename((helper[1],), helper[2], answer, row)


class SlowFamily:
    def __init__(self, lattice, stand, base, helper, parts):
        self.world = lattice.world
        self.helper = helper
        self.members = lattice.groups[stand]
        self.parts = [lattice.groups[part] for part in parts]
        self.answers = slow_answers(helper)
        self.places = self.cosets(lattice.groups[base], self.members)
        self.fibres = [sorted((i, coset[0]) for i, part in enumerate(self.parts) for coset in self.cosets(part, place))
                       for place in self.places]
        self.moves = {(k, g): self.move(k, g) for k in range(len(self.places)) for g in self.members}

    def cosets(self, group, members):
        return sorted({tuple(sorted(self.world.then(k, g) for k in group)) for g in members})

    def move(self, k, g):
        """The new place of place k, and where its things go."""
        place = [g in moved for moved in [tuple(self.world.then(self.world.inverse(c), x) for x in other)
                                          for other in self.places for c in self.places[k][:1]]].index(True)
        row = []
        for i, least in self.fibres[k]:
            coset = [self.world.then(self.world.then(k, least), g) for k in self.parts[i]]
            row.append(self.fibres[place].index((i, min(coset))))
        return place, tuple(row)

    def carried(self, k, answer, g):
        place, row = self.moves[(k, g)]
        return (place, slow_carry(self.helper, answer, row))

    def pickings(self):
        return list(product(self.answers, repeat=len(self.places)))

    def left_alone(self, picks):
        """The members that leave a picking alone."""
        return tuple(g for g in self.members
                     if all(picks[place] == answer for place, answer in
                            [self.carried(k, answer, g) for k, answer in enumerate(picks)]))

    def rests(self, k, group):
        return [answer for answer in self.answers
                if all(self.carried(k, answer, g) == (k, answer) for g in group if self.moves[(k, g)][0] == k)]

    def kept(self, group):
        return all(self.rests(k, group) for k in range(len(self.places)))

    def picking_for(self, group):
        if not self.kept(group):
            return None
        picks = []
        for k in range(len(self.places)):
            first = min(self.moves[(k, g)][0] for g in group)
            found = {self.carried(first, self.rests(first, group)[0], g) for g in group}
            here = [answer for place, answer in found if place == k]
            assert len(here) == 1
            picks.append(here[0])
        return tuple(picks)


def slow_least_bad(lattice, stand, good):
    """The groups that are not good although all others that they hold are."""
    held = [n for n, group in enumerate(lattice.groups) if set(group) <= set(lattice.groups[stand])]
    return tuple(n for n in held if n not in good and
                 all(m in good for m in held if m != n and set(lattice.groups[m]) <= set(lattice.groups[n])))
