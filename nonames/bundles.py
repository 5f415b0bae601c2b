"""Bundles: askings at one stand that are answered at once."""

from nonames.askings import family_of, is_asking, least_bad, restless_askings
from nonames.errors import BadMove, BadPick
from nonames.helped import helps_at
from nonames.helpers import least_alike
from nonames.plans import plan_by


class Bundle:
    """Askings at a stand, none of which can use what another one has made."""

    def __init__(self, lattice, stand, askings, *, helpers):
        self.lattice = lattice
        self.stand = stand
        self.askings = tuple(askings)
        self.helpers = tuple(helpers)
        for asking in self.askings:
            if not is_asking(lattice, stand, asking, self.helpers):
                raise BadMove(asking)
        # The families are made when they are first needed.
        self._made = None

    def __len__(self):
        return len(self.askings)

    def __contains__(self, asking):
        return asking in self.askings

    def __add__(self, other):
        if self.lattice.world.sizes != other.lattice.world.sizes:
            raise BadMove(other.stand)
        if self.stand != other.stand or self.helpers != other.helpers:
            raise BadMove(other.stand)
        return Bundle(self.lattice, self.stand, self.askings + other.askings, helpers=self.helpers)

    def _families(self):
        """Return the families of the askings, in their order."""
        if self._made is None:
            self._made = [family_of(self.lattice, self.stand, asking, self.helpers) for asking in self.askings]
        return self._made

    def kept_groups(self):
        """Return the groups of the stand that no asking breaks."""
        families = list(self._families())
        return tuple([number for number in self.lattice.held(self.stand)
                      if all([family.kept(number) for family in families])])

    def enough(self, good):
        """Tell whether the new stand of each reply is good."""
        return all([number in good for number in self.kept_groups()])

    def replies(self):
        """Yield all replies in ascending order."""
        families = list(self._families())
        many = 1
        for family in families:
            many = many * family.count_pickings()
        for number in range(many):
            yield reply_at(families, number)

    def reply_for(self, number):
        """Return the reply that a group of the stand leaves alone if it is kept, otherwise None."""
        found = [family.picking_for(number) for family in self._families()]
        return None if None in found else tuple(found)

    def new_stand(self, pickings):
        """Return the number of the group of the members that leave each picking alone, or raise BadPick."""
        reply = tuple(pickings)
        families = list(self._families())
        if len(reply) != len(families) or not all([picks in family for picks, family in zip(reply, families)]):
            raise BadPick(reply)
        stand = self.stand
        for picks, family in zip(reply, families):
            stand = self.lattice.meet(stand, family.new_stand(picks))
        return stand


def reply_at(families, number):
    """Return the reply with this number, from 0, in ascending order."""
    found = []
    left = number
    # The picking of the last family changes first from one reply to the next.
    for family in families[::-1]:
        many = family.count_pickings()
        found.append(family.picking_at(left % many))
        left = left // many
    return tuple(found[::-1])


def first_helps(lattice, stand, numbers, helpers):
    """Return the first helps of these groups of a stand, or raise NoPlan with the first that is unhelped."""
    helps = helps_at(lattice, lattice.held(stand), helpers)
    return [row[1:] for row in plan_by(lattice, numbers, helps)]


def full_bundle(lattice, stand, good, *, helpers):
    """Return the bundle of the first helps of all least groups that are not good, or raise NoPlan."""
    askings = {asking: True for asking in first_helps(lattice, stand, least_bad(lattice, stand, good), helpers)}
    return Bundle(lattice, stand, list(askings), helpers=helpers)


def first_breakers(lattice, stand, numbers, helpers):
    """Return a dict from each lot of these groups that some restless asking breaks to the first such asking."""
    found = {}
    for asking in restless_askings(lattice, stand, helpers=helpers):
        family = family_of(lattice, stand, asking, helpers)
        broken = tuple([number for number in numbers if not family.kept(number)])
        if broken not in found:
            found[broken] = asking
    return found


def covering(lots, wanted, many, start):
    """Return the places of at most `many` lots, from a place on, that hold all wanted numbers, or None.

    They are the first ones in ascending order, if so many are needed.
    """
    if not wanted:
        return ()
    if many == 0:
        return None
    for at in range(start, len(lots)):
        left = [number for number in wanted if number not in lots[at]]
        if len(left) < len(wanted):
            others = covering(lots, left, many - 1, at + 1)
            if others is not None:
                return (at,) + others
    return None


def least_covering(lots, wanted):
    """Return the places of the fewest lots that hold all wanted numbers, the first ones in ascending order."""
    many = 0
    places = covering(lots, wanted, many, 0)
    while places is None:
        many = many + 1
        places = covering(lots, wanted, many, 0)
    return places


def least_bundle(lattice, stand, good, *, helpers):
    """Return the first of the least bundles of restless askings that are enough, or raise NoPlan."""
    bad = least_bad(lattice, stand, good)
    first_helps(lattice, stand, bad, helpers)
    # Groups that members of the stand carry to one another are broken by the same askings.
    wanted = sorted({least_alike(lattice, stand, number) for number in bad})
    breakers = first_breakers(lattice, stand, wanted, helpers)
    lots = list(breakers)
    askings = [breakers[lots[at]] for at in least_covering(lots, wanted)]
    return Bundle(lattice, stand, askings, helpers=helpers)
