"""What is known of the lots that have some means: one of them or a bar, the corners, the edges."""

from itertools import combinations

from firstmeans.errors import BadMeans, BadPolynomial, NoLot
from firstmeans.polynomials import is_polynomial, value_at, values_at, with_roots
from firstmeans.ratios import Ratio, are_numbers, opposites, weighed
from firstmeans.scales import check_lot, insert_new, means_of
from firstmeans.shapes import high_shapes, low_shapes

MOST_MEANS = 4


def check_means(scale, means):
    """Raise BadMeans for any value that is no list of means of a scale."""
    if not are_numbers(means) or len(means) > MOST_MEANS or len(means) >= len(scale):
        raise BadMeans(means)


def check_some_lot(scale, means):
    """Raise NoLot, with a bar, if no lot has the means."""
    found = first_bar(scale, means)
    if found is not None:
        raise NoLot(found)


def by_means(means, polynomial):
    """The mean of a polynomial by the means, which are enough for its coefficients."""
    return weighed(polynomial, [1, *means])


def walls(scale, count):
    """The products of terms, one for each mean, that bars and edges are found among.

    The means that lots have fill a body. Its outer faces go through the places of the low and the high forms
    for one mean less, and each of these products is 0 on one of the faces and nowhere below 0.
    """
    if count == 0:
        return []
    marks = scale.marks()
    found = [with_roots([marks[place] for place in shape]) for shape in low_shapes(len(marks), count - 1)]
    for shape in high_shapes(len(marks), count - 1):
        found.append(opposites(with_roots([marks[place] for place in shape])))
    return found


def first_bar(scale, means):
    """A bar of the means that is a product of terms, or None."""
    for polynomial in walls(scale, len(means)):
        if by_means(means, polynomial) < 0:
            return polynomial
    return None


def lot_at(scale, means, places):
    """The lot that has d means and uses only values at d + 1 places, or None."""
    marks = scale.marks()
    lot = [Ratio(0)] * len(marks)
    for place in places:
        # The product that is 0 at all the other places tells the share of this one by its mean.
        others = with_roots([marks[other] for other in places if other != place])
        share = by_means(means, others).over(value_at(others, marks[place]))
        if share < 0:
            return None
        lot[place] = share
    return lot


def form_with_lot(scale, means, forms):
    """A tuple (form, lot) of the first form whose values some lot with the means uses only, or None."""
    for form in forms:
        lot = lot_at(scale, means, form)
        if lot is not None:
            return form, lot
    return None


def is_above(scale, value, count):
    """Whether any value is a polynomial fit for so many means whose curve is nowhere below 0."""
    if not is_polynomial(value, count + 1):
        return False
    return all([number.top >= 0 for number in values_at(value, scale.marks())])


def mean_by(scale, means, polynomial):
    """The mean of a polynomial by the means."""
    check_means(scale, means)
    if not is_polynomial(polynomial, len(means) + 1):
        raise BadPolynomial(polynomial)
    return by_means(means, polynomial)


def has(scale, means, lot):
    """Whether a lot has the means."""
    check_means(scale, means)
    check_lot(scale, lot)
    return all([number == wanted for number, wanted in zip(means_of(scale, lot, len(means)), means)])


def some_lot(scale, means):
    """A lot that has the means, or None."""
    check_means(scale, means)
    found = form_with_lot(scale, means, low_shapes(len(scale), len(means)))
    return None if found is None else found[1]


def bar(scale, means):
    """A bar of the means, or None."""
    check_means(scale, means)
    return first_bar(scale, means)


def is_bar(scale, means, value):
    """Whether any value is a bar of the means."""
    check_means(scale, means)
    return is_above(scale, value, len(means)) and by_means(means, value) < 0


def corners(scale, means):
    """The ascending list of all corners: the lots that have the means and use no more values than they must."""
    check_means(scale, means)
    found = []
    for places in combinations(range(len(scale)), len(means) + 1):
        lot = lot_at(scale, means, places)
        if lot is not None:
            insert_new(found, lot)
    return found


def first_edge(scale, means):
    """An edge of the means that some lot has, or None."""
    for polynomial in walls(scale, len(means)):
        if by_means(means, polynomial) == 0:
            return polynomial
    return None


def edge(scale, means):
    """A polynomial that is nowhere below 0, and somewhere above, and whose mean is 0, or None."""
    check_means(scale, means)
    check_some_lot(scale, means)
    return first_edge(scale, means)


def is_edge(scale, means, value):
    """Whether any value is a polynomial such as edge tells."""
    check_means(scale, means)
    check_some_lot(scale, means)
    if not is_above(scale, value, len(means)) or by_means(means, value) != 0:
        return False
    return any([number.top > 0 for number in values_at(value, scale.marks())])


def is_sole(scale, means):
    """Whether just one lot has the means."""
    check_means(scale, means)
    if first_bar(scale, means) is not None:
        return False
    return len(scale) == len(means) + 1 or first_edge(scale, means) is not None
