"""What the tests measure the package by: the same things, worked out slowly, with Fractions, by their meaning."""

from fractions import Fraction
from functools import cache
from itertools import combinations

from firstmeans.ratios import Ratio


def plain(number):
    """The Fraction that is equal to a Ratio, an integer or a Fraction."""
    return Fraction(number.top, number.bottom) if isinstance(number, Ratio) else Fraction(number)


def plains(numbers):
    return [plain(number) for number in numbers]


@cache
def shares_by_powers(marks):
    """For each value the factors that the 0-th mean, the first one and so on have in its share, by elimination."""
    size = len(marks)
    table = [[mark ** k for mark in marks] + [Fraction(int(at == k)) for at in range(size)] for k in range(size)]
    for at in range(size):
        pivot = next(k for k in range(at, len(table)) if table[k][at] != 0)
        table[at], table[pivot] = table[pivot], table[at]
        table[at] = [item / table[at][at] for item in table[at]]
        for k, row in enumerate(table):
            if k != at:
                table[k] = [item - row[at] * head for item, head in zip(row, table[at])]
    return [row[size:] for row in table]


def all_corners(scale, means):
    """The sorted corners, from the equations for all choices of one value more than there are means."""
    marks = plains(scale.marks())
    wanted = [Fraction(1), *plains(means)]
    found = set()
    for places in combinations(range(len(marks)), len(wanted)):
        factors = shares_by_powers(tuple(marks[place] for place in places))
        shares = [sum(factor * number for factor, number in zip(row, wanted)) for row in factors]
        if min(shares) >= 0:
            lot = [Fraction(0)] * len(marks)
            for place, share in zip(places, shares):
                lot[place] = share
            found.add(tuple(lot))
    return [list(lot) for lot in sorted(found)]


def slope(marks, numbers):
    """The divided difference, word by word."""
    if len(numbers) == 1:
        return numbers[0]
    return (slope(marks[1:], numbers[1:]) - slope(marks[:-1], numbers[:-1])) / (marks[-1] - marks[0])


def slopes(scale, curve, order):
    """The divided differences over all neighbouring values, one more than the order."""
    marks, numbers = plains(scale.marks()), plains(curve)
    ends = range(order + 1, len(marks) + 1)
    return [slope(marks[end - order - 1:end], numbers[end - order - 1:end]) for end in ends]


def at_marks(scale, polynomial):
    """The numbers of the curve of a polynomial."""
    return [sum(c * mark ** k for k, c in enumerate(plains(polynomial))) for mark in plains(scale.marks())]


def by_means(means, polynomial):
    return sum(c * number for c, number in zip(plains(polynomial), [Fraction(1), *plains(means)]))


def mean_for(lot, curve):
    return sum(share * number for share, number in zip(plains(lot), plains(curve)))


def solved(rows, wanted):
    """The numbers whose products with each row sum to what is wanted, or None unless there is just one list of them."""
    size = len(rows)
    table = [[*row, number] for row, number in zip(rows, wanted)]
    for at in range(size):
        pivot = next((k for k in range(at, size) if table[k][at] != 0), None)
        if pivot is None:
            return None
        table[at], table[pivot] = table[pivot], table[at]
        table[at] = [item / table[at][at] for item in table[at]]
        for k in range(size):
            if k != at:
                table[k] = [item - table[at][j] * table[k][at] for j, item in enumerate(table[k])]
    return [row[-1] for row in table]


def plain_claims(facts):
    """The claims of facts, each as the list of how far its curve is above its number."""
    found = []
    for word, curve, number in facts:
        heights = [height - plain(number) for height in plains(curve)]
        if word in ("is", "at most"):
            found.append(heights)
        if word in ("is", "at least"):
            found.append([-height for height in heights])
    return found


def fitting_corners(scale, facts):
    """The corners of all lots that fit facts, from the equations for all choices of limits that may be reached."""
    size = len(scale)
    claims = plain_claims(facts)
    limits = [[Fraction(int(at == place)) for at in range(size)] for place in range(size)] + claims
    found = set()
    for chosen in combinations(limits, size - 1):
        lot = solved([[Fraction(1)] * size, *chosen], [Fraction(1)] + [Fraction(0)] * (size - 1))
        if lot is not None and min(lot) >= 0 and all(mean_for(lot, heights) <= 0 for heights in claims):
            found.add(tuple(lot))
    return [list(lot) for lot in sorted(found)]
