"""Polynomials, as lists of their coefficients, and divided differences over bare values."""

from firstmeans.ratios import Ratio, are_numbers, as_ratio


def is_polynomial(value, most):
    """Whether any value is a list of one or more numbers, so many at the most."""
    return are_numbers(value) and 1 <= len(value) <= most


def value_at(polynomial, mark):
    """The value of a polynomial at a number."""
    reached = Ratio(0)
    for coefficient in reversed(polynomial):
        reached = reached * mark + coefficient
    return reached


def values_at(polynomial, marks):
    """The list of the values of a polynomial at some numbers."""
    return [value_at(polynomial, mark) for mark in marks]


def lifted(polynomial, root):
    """The product of a polynomial of Ratios and of the term (v less the root)."""
    raised = [Ratio(0), *polynomial]
    kept = [*polynomial, Ratio(0)]
    return [up - coefficient * root for up, coefficient in zip(raised, kept)]


def with_roots(roots):
    """The product of the terms (v less a root) of some roots; it is 1 if there are none."""
    polynomial = [Ratio(1)]
    for root in roots:
        polynomial = lifted(polynomial, root)
    return polynomial


def steeper(marks, slopes, width):
    """The divided differences over one value more than those given, which go over so many values."""
    return [
        (slopes[at + 1] - slopes[at]).over(marks[at + width] - marks[at])
        for at in range(len(slopes) - 1)
    ]


def slopes_of(marks, numbers, order):
    """The divided differences over all neighbouring values, one more than the order; perhaps none."""
    slopes = [as_ratio(number) for number in numbers]
    if order >= len(slopes):
        return []
    for width in range(1, order + 1):
        slopes = steeper(marks, slopes, width)
    return slopes


def fitted(marks, numbers):
    """The polynomial with as many coefficients as there are values that has these numbers there."""
    slopes = [as_ratio(number) for number in numbers]
    leads = []
    for width in range(1, len(marks) + 1):
        leads.append(slopes[0])
        slopes = steeper(marks, slopes, width)
    # Newton's form: each divided difference over the first values stands behind the terms of those ahead.
    polynomial = [leads[-1]]
    for at in range(len(leads) - 2, -1, -1):
        first, *others = lifted(polynomial, marks[at])
        polynomial = [first + leads[at], *others]
    return polynomial
