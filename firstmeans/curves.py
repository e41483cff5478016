"""Curves that are told by words, and sums of curves."""

from firstmeans.errors import BadCount, BadCurve, BadCurves, BadWeights
from firstmeans.ratios import Ratio, are_numbers, as_ratio, is_whole, total

MOST_POWER = 8


def power(scale, exponent):
    """The curve of the powers of the values with an exponent."""
    if not is_whole(exponent) or not 0 <= exponent <= MOST_POWER:
        raise BadCount(exponent)
    marks = scale.marks()
    curve = [Ratio(1)] * len(marks)
    for _ in range(exponent):
        curve = [reached * mark for reached, mark in zip(curve, marks)]
    return curve


def cover(scale, threshold):
    """The curve of how far each value is above a threshold, 0 if it is not."""
    start = as_ratio(threshold)
    return [mark - start if start < mark else Ratio(0) for mark in scale.marks()]


def cap(scale, limit):
    """The curve of the lesser one of each value and a limit."""
    most = as_ratio(limit)
    return [mark if mark < most else most for mark in scale.marks()]


def step(scale, threshold):
    """The curve that has 1 from a threshold on, and 0 below it."""
    start = as_ratio(threshold)
    return [Ratio(1) if start <= mark else Ratio(0) for mark in scale.marks()]


def check_curves(curves):
    """Raise an error unless a value is a list of one or more lists of equally many numbers, at least one."""
    if not isinstance(curves, (list, tuple)) or len(curves) == 0:
        raise BadCurves(curves)
    for curve in curves:
        # The first item is judged before its length is asked for.
        if not are_numbers(curve) or len(curve) == 0 or len(curve) != len(curves[0]):
            raise BadCurve(curve)


def summed(curves, weights):
    """The curve of the sums of the numbers of some curves, each multiplied with the weight of its curve."""
    check_curves(curves)
    if not are_numbers(weights) or len(weights) != len(curves):
        raise BadWeights(weights)
    return [
        total([as_ratio(weight) * curve[place] for weight, curve in zip(weights, curves)])
        for place in range(len(curves[0]))
    ]
