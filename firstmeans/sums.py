"""Lots put together: mixtures, sums, lots that are led, and finer scales."""

from math import comb

from firstmeans.curves import summed
from firstmeans.errors import BadLots, BadNumbers, BadValues, BadWeights, TooMany
from firstmeans.ratios import Ratio, are_numbers, as_ratio, total
from firstmeans.scales import MOST_VALUES, Scale, are_shares, check_lot, distinct, is_lot


def are_lots(scale, value):
    """Whether any value is a list of one or more lots of a scale."""
    if not isinstance(value, (list, tuple)) or len(value) == 0:
        return False
    return all([is_lot(scale, item) for item in value])


def mixture(scale, lots, shares):
    """The lot that has for each value the shares of some lots, each multiplied with the share of its lot."""
    if not are_lots(scale, lots):
        raise BadLots(lots)
    if not are_shares(shares, len(lots)):
        raise BadWeights(shares)
    return summed(lots, shares)


def added(scale, lot, other_scale, other):
    """A tuple of the scale and the lot of the sum of two values, each drawn apart from the other."""
    check_lot(scale, lot)
    check_lot(other_scale, other)
    marks, others = scale.marks(), other_scale.marks()
    sums = distinct([one + further for one in marks for further in others])
    if len(sums) > MOST_VALUES:
        raise TooMany(len(sums))
    joint = Scale(sums)
    shares = [Ratio(0)] * len(sums)
    for one, share in zip(marks, lot):
        for further, part in zip(others, other):
            place = joint.place(one + further)
            shares[place] = shares[place] + as_ratio(share) * part
    return joint, shares


def added_means(means, others):
    """The first means of the sum of two values, each drawn apart from the other, by the first means of both."""
    if not are_numbers(means):
        raise BadNumbers(means)
    if not are_numbers(others) or len(others) != len(means):
        raise BadNumbers(others)
    ones, rest = [Ratio(1), *means], [Ratio(1), *others]
    return [
        total([as_ratio(ones[k]) * rest[power - k] * comb(power, k) for k in range(power + 1)])
        for power in range(1, len(ones))
    ]


def led_lot(scale, lot, factor, add):
    """A tuple of a scale that is led and of the lot that keeps its shares there."""
    check_lot(scale, lot)
    led = scale.led(factor, add)
    shares = [as_ratio(share) for share in lot]
    if as_ratio(factor) < 0:
        # The order of the values is turned about.
        shares.reverse()
    return led, shares


def finer(scale, values):
    """The scale that has further values."""
    if not are_numbers(values) or len(scale) + len(values) > MOST_VALUES:
        raise BadValues(values)
    marks = scale.marks()
    every = distinct([*marks, *values])
    if len(every) < len(marks) + len(values):
        raise BadValues(values)
    return Scale(every)


def finer_lot(scale, values, lot):
    """The lot of a scale with further values that gives them no shares."""
    wider = finer(scale, values)
    check_lot(scale, lot)
    shares = [Ratio(0)] * len(wider)
    for mark, share in zip(scale.marks(), lot):
        shares[wider.place(mark)] = as_ratio(share)
    return shares
