"""Lots of two kinds: all lots that have some means, and all lots that have others."""

from firstmeans.anycurve import highest, lowest, span_over
from firstmeans.bends import bends_up, check_order
from firstmeans.errors import BadNumber
from firstmeans.known import check_means, check_some_lot, corners, has
from firstmeans.ratios import Ratio, as_ratio, weighed
from firstmeans.ranks import leaning
from firstmeans.scales import check_curve, is_curve, is_lot


def check_kinds(scale, means, others):
    """Raise BadMeans for any of two values that is no list of means of a scale."""
    check_means(scale, means)
    check_means(scale, others)


def check_some_lots(scale, means, others):
    """Raise NoLot, with a bar, if no lot has the means, or no lot has the others."""
    check_some_lot(scale, means)
    check_some_lot(scale, others)


def check_ordered(scale, means, others, order):
    """Raise an error unless some lots have the means, some the others, and a value is an order."""
    check_kinds(scale, means, others)
    check_order(scale, order)
    check_some_lots(scale, means, others)


def against(scale, means, others, order):
    """A tuple of a lot of each kind and of a curve for which the one does not stand under the other, or None."""
    check_ordered(scale, means, others, order)
    ones, rest = corners(scale, means), corners(scale, others)
    for curve in leaning(scale, order):
        one, other = highest(ones, curve), lowest(rest, curve)
        if weighed(other, curve) < weighed(one, curve):
            return one, other, curve
    return None


def all_under(scale, means, others, order):
    """Whether each lot that has the means stands under each lot that has the others, in an order."""
    return against(scale, means, others, order) is None


def is_against(scale, means, others, order, value):
    """Whether any value is a tuple such as against tells."""
    check_ordered(scale, means, others, order)
    if not isinstance(value, tuple) or len(value) != 3:
        return False
    one, other, curve = value
    if not is_lot(scale, one) or not is_lot(scale, other) or not is_curve(scale, curve):
        return False
    if not has(scale, means, one) or not has(scale, others, other) or not bends_up(scale, curve, order):
        return False
    return weighed(other, curve) < weighed(one, curve)


def check_rise(scale, means, others, curve):
    """Raise an error unless some lots have the means, some the others, and a value is a curve."""
    check_kinds(scale, means, others)
    check_curve(scale, curve)
    check_some_lots(scale, means, others)


def least_rise(scale, means, others, curve):
    """By how much, at the least, the mean of a curve is greater for a lot that has the others."""
    check_rise(scale, means, others, curve)
    _, top = span_over(corners(scale, means), curve)
    bottom, _ = span_over(corners(scale, others), curve)
    return bottom - top


def greatest_rise(scale, means, others, curve):
    """By how much, at the most, the mean of a curve is greater for a lot that has the others."""
    check_rise(scale, means, others, curve)
    bottom, _ = span_over(corners(scale, means), curve)
    _, top = span_over(corners(scale, others), curve)
    return top - bottom


def both(scale, means, others, share):
    """The means of the mixtures in which a lot that has the others has a share."""
    check_kinds(scale, means, others)
    part = as_ratio(share)
    rest = Ratio(1) - part
    if part < 0 or rest < 0:
        raise BadNumber(share)
    return [rest * one + part * other for one, other in zip(means, others)]
