"""The least and the greatest mean of any curve for all lots that have some means."""

from itertools import combinations

from firstmeans.bends import check_places, lies_under
from firstmeans.extremes import has_mean, high_end, low_end, touching
from firstmeans.known import by_means, check_means, check_some_lot, corners, has, lot_at
from firstmeans.polynomials import values_at
from firstmeans.ratios import is_number, opposites, weighed
from firstmeans.scales import check_curve, is_lot, uses


def check_asked(scale, means, curve):
    """Raise an error unless some lot has the means, and a value is a curve."""
    check_means(scale, means)
    check_curve(scale, curve)
    check_some_lot(scale, means)


def lowest(lots, curve):
    """The first one of some lots for which the mean of a curve is the least."""
    found = lots[0]
    for lot in lots[1:]:
        if weighed(lot, curve) < weighed(found, curve):
            found = lot
    return found


def highest(lots, curve):
    """The first one of some lots for which the mean of a curve is the greatest."""
    return lowest(lots, opposites(curve))


def span_over(lots, curve):
    """A tuple of the least and the greatest mean of a curve for some lots."""
    return weighed(lowest(lots, curve), curve), weighed(highest(lots, curve), curve)


def bottom_of(scale, means, curve):
    """A tuple such as least tells, of means that some lot has."""
    for places in combinations(range(len(scale)), len(means) + 1):
        lot = lot_at(scale, means, places)
        if lot is not None:
            # Where the lot uses values, the polynomial agrees with the curve: they have the same mean. If it is
            # nowhere above the curve, no other lot has a lesser one. Some choice of places is always so.
            polynomial = touching(scale, places, curve)
            if lies_under(values_at(polynomial, scale.marks()), curve):
                return by_means(means, polynomial), lot, polynomial


def least(scale, means, curve):
    """A tuple of the least mean of a curve, a lot that has it, and a polynomial under the curve that has it."""
    check_asked(scale, means, curve)
    return bottom_of(scale, means, curve)


def greatest(scale, means, curve):
    """A tuple of the greatest mean of a curve, a lot that has it, and a polynomial over the curve that has it."""
    check_asked(scale, means, curve)
    number, lot, polynomial = bottom_of(scale, means, opposites(curve))
    return -number, lot, opposites(polynomial)


def agrees(scale, means, curve, value):
    """Whether any value is a tuple of a number, and of a lot and a polynomial fit for the means that tell it."""
    if not isinstance(value, tuple) or len(value) != 3:
        return False
    number, lot, polynomial = value
    if not is_number(number) or not is_lot(scale, lot) or not has(scale, means, lot):
        return False
    return weighed(lot, curve) == number and has_mean(means, polynomial, number)


def is_least(scale, means, curve, value):
    """Whether any value is a tuple such as least tells."""
    check_asked(scale, means, curve)
    return agrees(scale, means, curve, value) and lies_under(values_at(value[2], scale.marks()), curve)


def is_greatest(scale, means, curve, value):
    """Whether any value is a tuple such as greatest tells."""
    check_asked(scale, means, curve)
    return agrees(scale, means, curve, value) and lies_under(curve, values_at(value[2], scale.marks()))


def chances(scale, means, places):
    """A tuple of the least and the greatest sum of the shares of the values at some places."""
    check_means(scale, means)
    check_places(scale, places)
    check_some_lot(scale, means)
    return span_over(corners(scale, means), [int(place in places) for place in range(len(scale))])


def used_by_corners(scale, means):
    """The list of the lists of places that the corners use; raise NoLot if there are none."""
    check_means(scale, means)
    check_some_lot(scale, means)
    return [uses(scale, lot) for lot in corners(scale, means)]


def surely(scale, means):
    """The ascending list of the places of the values that all lots with the means use."""
    used = used_by_corners(scale, means)
    return [place for place in range(len(scale)) if all([place in places for places in used])]


def never(scale, means):
    """The ascending list of the places of the values that no lot with the means uses."""
    used = used_by_corners(scale, means)
    return [place for place in range(len(scale)) if not any([place in places for places in used])]


def by_ends(scale, means, curve):
    """Whether the least, and whether the greatest mean of a curve is that of the low or the high lot."""
    check_asked(scale, means, curve)
    ends = [weighed(lot, curve) for _, lot in (low_end(scale, means), high_end(scale, means))]
    bottom, top = span_over(corners(scale, means), curve)
    return bottom in ends, top in ends
