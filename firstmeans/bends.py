"""How curves bend: divided differences, the orders, and the stencils, duals and polynomials that show it."""

from firstmeans.errors import BadCurve, BadNumbers, BadOrder, BadPlace, BadPlaces, BadPolynomial, BadWeights
from firstmeans.polynomials import fitted, is_polynomial, slopes_of, value_at, values_at, with_roots
from firstmeans.ratios import Ratio, are_numbers, as_ratio, is_whole, total
from firstmeans.scales import check_curve

MOST_COEFFICIENTS = 8


def are_places(scale, value):
    """Whether any value is a list of one or more different places of a scale, in ascending order."""
    if not isinstance(value, (list, tuple)) or len(value) == 0:
        return False
    if not all([is_whole(place) for place in value]):
        return False
    climbs = all([before < behind for before, behind in zip(value, value[1:])])
    return climbs and 0 <= value[0] and value[-1] < len(scale)


def check_places(scale, places):
    """Raise BadPlaces for any value that is no list of places of a scale."""
    if not are_places(scale, places):
        raise BadPlaces(places)


def check_order(scale, order):
    """Raise BadOrder for any value that is no order of the stencils of a scale."""
    if not is_whole(order) or not 1 <= order < len(scale):
        raise BadOrder(order)


def check_window(scale, place, order):
    """Raise an error unless a value is an order, and another one a place at which its stencils may begin."""
    check_order(scale, order)
    if not is_whole(place) or not 0 <= place < len(scale) - order:
        raise BadPlace(place)


def divided(scale, curve, places):
    """The divided difference of a curve over the values at some places."""
    check_curve(scale, curve)
    check_places(scale, places)
    marks = scale.marks()
    return slopes_of([marks[place] for place in places], [curve[place] for place in places], len(places) - 1)[0]


def signs(scale, curve, order):
    """Integers with the signs of the divided differences over all neighbouring values that an order goes by."""
    check_curve(scale, curve)
    if not is_whole(order) or order < 1:
        raise BadOrder(order)
    return [slope.top for slope in slopes_of(scale.marks(), curve, order)]


def bends_up(scale, curve, order):
    """Whether a curve bends up in an order."""
    return all([sign >= 0 for sign in signs(scale, curve, order)])


def bends_down(scale, curve, order):
    """Whether a curve bends down in an order."""
    return all([sign <= 0 for sign in signs(scale, curve, order)])


def orders_up(scale, curve):
    """The ascending list of the orders, less than the number of the values, in which a curve bends up."""
    check_curve(scale, curve)
    return [order for order in range(1, len(scale)) if bends_up(scale, curve, order)]


def orders_down(scale, curve):
    """The ascending list of the orders, less than the number of the values, in which a curve bends down."""
    check_curve(scale, curve)
    return [order for order in range(1, len(scale)) if bends_down(scale, curve, order)]


def stencil(scale, place, order):
    """The numbers whose products with those of any curve sum to the divided difference from a place on."""
    check_window(scale, place, order)
    marks = scale.marks()
    numbers = [Ratio(0)] * len(marks)
    for at in range(place, place + order + 1):
        others = marks[place:at] + marks[at + 1:place + order + 1]
        numbers[at] = Ratio(1).over(value_at(with_roots(others), marks[at]))
    return numbers


def dual(scale, place, order):
    """The curve of which only the divided difference from a place on is 1, and which is 0 ahead of its end."""
    check_window(scale, place, order)
    marks = scale.marks()
    end = place + order
    # Behind the place it goes on as a polynomial of a lesser degree, which bends nowhere there in the order.
    between = with_roots(marks[place + 1:end])
    span = marks[end] - marks[place]
    return [Ratio(0)] * end + [span * value_at(between, mark) for mark in marks[end:]]


def through(scale, places, numbers):
    """The polynomial whose curve has some numbers at the values at some places."""
    check_places(scale, places)
    if not are_numbers(numbers) or len(numbers) != len(places):
        raise BadNumbers(numbers)
    marks = scale.marks()
    return fitted([marks[place] for place in places], numbers)


def curve_of(scale, polynomial):
    """The curve of a polynomial."""
    if not is_polynomial(polynomial, MOST_COEFFICIENTS):
        raise BadPolynomial(polynomial)
    return values_at(polynomial, scale.marks())


def lies_under(one, other):
    """Whether no number of a list is greater than the one of another list at its place."""
    if not are_numbers(one) or len(one) == 0:
        raise BadCurve(one)
    if not are_numbers(other) or len(other) != len(one):
        raise BadCurve(other)
    return all([as_ratio(lower) <= upper for lower, upper in zip(one, other)])


def parted(scale, curve, order):
    """The polynomial through the first numbers of a curve, and the weights of the duals that it lacks."""
    check_curve(scale, curve)
    check_order(scale, order)
    marks = scale.marks()
    return fitted(marks[:order], curve[:order]), slopes_of(marks, curve, order)


def put_together(scale, order, polynomial, weights):
    """The curve that is parted into a polynomial and weights."""
    check_order(scale, order)
    if not are_numbers(polynomial) or len(polynomial) != order:
        raise BadPolynomial(polynomial)
    if not are_numbers(weights) or len(weights) != len(scale) - order:
        raise BadWeights(weights)
    duals = [dual(scale, place, order) for place in range(len(weights))]
    return [
        number + total([bend[place] * weight for bend, weight in zip(duals, weights)])
        for place, number in enumerate(values_at(polynomial, scale.marks()))
    ]
