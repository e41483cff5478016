"""The low and the high lot, and what they tell of the curves that bend one way."""

from firstmeans.bends import bends_down, bends_up
from firstmeans.errors import BadCount, NotBent
from firstmeans.known import MOST_MEANS, by_means, check_means, check_some_lot, form_with_lot
from firstmeans.polynomials import fitted, is_polynomial, values_at
from firstmeans.ratios import as_ratio, is_whole
from firstmeans.scales import check_curve, is_curve, mean
from firstmeans.shapes import high_shapes, low_shapes


def low_end(scale, means):
    """A tuple of a low form and the low lot, of means that some lot has."""
    return form_with_lot(scale, means, low_shapes(len(scale), len(means)))


def high_end(scale, means):
    """A tuple of a high form and the high lot, of means that some lot has."""
    return form_with_lot(scale, means, high_shapes(len(scale), len(means)))


def low(scale, means):
    """The low lot."""
    check_means(scale, means)
    check_some_lot(scale, means)
    return low_end(scale, means)[1]


def high(scale, means):
    """The high lot."""
    check_means(scale, means)
    check_some_lot(scale, means)
    return high_end(scale, means)[1]


def is_same(scale, lot, value):
    """Whether any value is a list of the numbers of a lot."""
    return is_curve(scale, value) and all([share == number for share, number in zip(lot, value)])


def is_low(scale, means, value):
    """Whether any value is the low lot."""
    return is_same(scale, low(scale, means), value)


def is_high(scale, means, value):
    """Whether any value is the high lot."""
    return is_same(scale, high(scale, means), value)


def rises(scale, means, curve):
    """Whether a curve bends up in the order next to the means; raise NotBent if it bends neither up nor down."""
    check_means(scale, means)
    check_curve(scale, curve)
    order = len(means) + 1
    up = bends_up(scale, curve, order)
    if not up and not bends_down(scale, curve, order):
        raise NotBent(order)
    check_some_lot(scale, means)
    return up


def least_end(scale, means, curve):
    """A tuple of a form and of the lot for which the mean of a curve that bends is the least."""
    if rises(scale, means, curve):
        return low_end(scale, means)
    return high_end(scale, means)


def greatest_end(scale, means, curve):
    """A tuple of a form and of the lot for which the mean of a curve that bends is the greatest."""
    if rises(scale, means, curve):
        return high_end(scale, means)
    return low_end(scale, means)


def bounds(scale, means, curve):
    """A tuple of the least and the greatest mean of a curve that bends, for all lots that have the means."""
    up = rises(scale, means, curve)
    one = mean(scale, low_end(scale, means)[1], curve)
    other = mean(scale, high_end(scale, means)[1], curve)
    return (one, other) if up else (other, one)


def touching(scale, form, curve):
    """The polynomial through the numbers of a curve at the places of a form."""
    marks = scale.marks()
    return fitted([marks[place] for place in form], [curve[place] for place in form])


def under(scale, means, curve):
    """A polynomial under a curve that bends, whose mean is the least mean of the curve."""
    form, _ = least_end(scale, means, curve)
    return touching(scale, form, curve)


def over(scale, means, curve):
    """A polynomial over a curve that bends, whose mean is the greatest mean of the curve."""
    form, _ = greatest_end(scale, means, curve)
    return touching(scale, form, curve)


def has_mean(means, value, wanted):
    """Whether any value is a polynomial fit for the means, and has a certain mean by them."""
    return is_polynomial(value, len(means) + 1) and by_means(means, value) == wanted


def is_under(scale, means, curve, value):
    """Whether any value is a polynomial such as under tells."""
    _, lot = least_end(scale, means, curve)
    if not has_mean(means, value, mean(scale, lot, curve)):
        return False
    return all([number <= above for number, above in zip(values_at(value, scale.marks()), curve)])


def is_over(scale, means, curve, value):
    """Whether any value is a polynomial such as over tells."""
    _, lot = greatest_end(scale, means, curve)
    if not has_mean(means, value, mean(scale, lot, curve)):
        return False
    return all([as_ratio(below) <= number for number, below in zip(values_at(value, scale.marks()), curve)])


def check_count(scale, count):
    """Raise BadCount for any value that is no number of means of a scale."""
    if not is_whole(count) or not 0 <= count <= MOST_MEANS or count >= len(scale):
        raise BadCount(count)


def low_forms(scale, count):
    """The ascending list of all low forms for a number of means."""
    check_count(scale, count)
    return low_shapes(len(scale), count)


def high_forms(scale, count):
    """The ascending list of all high forms for a number of means."""
    check_count(scale, count)
    return high_shapes(len(scale), count)
