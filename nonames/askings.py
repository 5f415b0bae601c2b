"""Askings: what can be asked at a stand, and which groups cannot be kept from the answers."""

from nonames.errors import BadMove
from nonames.families import Family
from nonames.helpers import answer_space, is_restless_in, least_alike, lots_under
from nonames.plans import bad_groups


def least_bad(lattice, stand, good):
    """Return the groups of a stand that are not good, but hold no others that are not."""
    bad = bad_groups(lattice, stand, good)
    return tuple([number for number in bad if not any([held != number and held in bad
                                                       for held in lattice.held(number)])])


def is_asking(lattice, stand, asking, helpers):
    """Tell whether a base, an index and parts are an asking at the stand."""
    base, k, parts = asking
    return 0 <= k < len(helpers) and Family.fits(lattice, stand, base, helpers[k], parts)


def family_of(lattice, stand, asking, helpers):
    """Return the family of an asking at the stand, or raise BadMove."""
    if not is_asking(lattice, stand, asking, helpers):
        raise BadMove(asking)
    base, k, parts = asking
    return Family(lattice, stand, base, helpers[k], parts)


def breaks(lattice, stand, asking, number, *, helpers):
    """Tell whether an asking breaks a group that the stand holds, or raise BadMove."""
    family = family_of(lattice, stand, asking, helpers)
    return not family.kept(number)


def restless_askings(lattice, stand, *, helpers):
    """List the restless askings at the stand, in ascending order, without those that do the same from elsewhere."""
    spaces = [answer_space(helper) for helper in helpers]
    bases = [base for base in lattice.held(stand) if least_alike(lattice, stand, base) == base]
    return [(base, k, parts) for base in bases for k, helper in enumerate(helpers)
            for parts in lots_under(lattice, base, helper[1])
            if is_restless_in(lattice, base, helper, parts, spaces[k])]
