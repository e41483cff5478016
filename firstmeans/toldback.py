"""Lots told back: by the means of covers, and by facts of the means of any curves."""

from math import lcm

from firstmeans.curves import cover
from firstmeans.errors import BadFact, BadNumbers, NoFit
from firstmeans.polynomials import slopes_of
from firstmeans.ratios import Ratio, are_numbers, as_ratio, is_number, opposites, weighed
from firstmeans.scales import check_curve, check_lot, is_curve
from firstmeans.tables import lot_or_weights

WORDS = ("is", "at most", "at least")


def covers(scale, lot):
    """The list of the means of the covers with the values as thresholds."""
    check_lot(scale, lot)
    return [weighed(lot, cover(scale, mark)) for mark in scale.marks()]


def check_prices(scale, prices):
    """Raise BadNumbers for any value that is no list of a number for each value."""
    if not is_curve(scale, prices):
        raise BadNumbers(prices)


def shares_told(scale, prices):
    """The shares that the prices tell, perhaps some below 0."""
    # How fast the prices fall from each value to the next one is the share of all values behind it.
    behind = opposites(slopes_of(scale.marks(), prices, 1))
    return [before - after for before, after in zip([Ratio(1), *behind], [*behind, Ratio(0)])]


def fault(scale, prices):
    """The place that shows that no lot has these means of covers, or None."""
    check_prices(scale, prices)
    if prices[-1] != 0:
        return len(scale) - 1
    for place, share in enumerate(shares_told(scale, prices)):
        if share < 0:
            return place
    return None


def lot_of_covers(scale, prices):
    """The lot that has these means of covers, or None."""
    if fault(scale, prices) is not None:
        return None
    return shares_told(scale, prices)


def is_fact(scale, value):
    """Whether any value is a fact of a scale."""
    if not isinstance(value, tuple) or len(value) != 3:
        return False
    word, curve, number = value
    return isinstance(word, str) and word in WORDS and is_curve(scale, curve) and is_number(number)


def check_facts(scale, facts):
    """Raise BadFact with the first item of a list that is no fact of a scale."""
    for fact in facts:
        if not is_fact(scale, fact):
            raise BadFact(fact)


def claims_of(fact):
    """The list of the claims of a fact."""
    word, curve, number = fact
    found = []
    if word != "at least":
        found.append(([as_ratio(height) for height in curve], as_ratio(number)))
    if word != "at most":
        found.append((opposites(curve), -as_ratio(number)))
    return found


def all_claims(facts):
    """The list of the claims of some facts, in order."""
    return [claim for fact in facts for claim in claims_of(fact)]


def claims(scale, facts):
    """The list of the claims of a list of facts, in order."""
    check_facts(scale, facts)
    return all_claims(facts)


def whole(numbers):
    """A tuple of the least integer above 0 that makes all numbers integers, and of the list of these."""
    factor = 1
    for number in numbers:
        factor = lcm(factor, number.bottom)
    return factor, [number.top * (factor // number.bottom) for number in numbers]


def over_claim(claim):
    """How far the curve of a claim is above its number, at each value."""
    curve, number = claim
    return [height - number for height in curve]


def lot_or_clash(claimed, curve):
    """A tuple (lot, None) of the lot that fits claims and has the least mean of a curve, or (None, clash)."""
    loads = [whole(over_claim(claim)) for claim in claimed]
    _, limits = whole([as_ratio(height) for height in curve])
    lot, weights = lot_or_weights([load for _, load in loads], limits)
    if lot is not None:
        return lot, None
    return None, [weight * factor for weight, (factor, _) in zip(weights, loads)]


def any_lot_or_clash(scale, facts):
    """A tuple (lot, None) of a lot that fits facts, or (None, clash)."""
    return lot_or_clash(all_claims(facts), [0] * len(scale))


def fitting(scale, facts):
    """A lot that fits a list of facts, or None."""
    check_facts(scale, facts)
    return any_lot_or_clash(scale, facts)[0]


def clash(scale, facts):
    """Weights of the claims that show that no lot fits a list of facts, or None."""
    check_facts(scale, facts)
    return any_lot_or_clash(scale, facts)[1]


def is_clash(scale, facts, value):
    """Whether any value is a clash of a list of facts."""
    check_facts(scale, facts)
    heights = [over_claim(claim) for claim in all_claims(facts)]
    if not are_numbers(value) or len(value) != len(heights) or any([as_ratio(weight) < 0 for weight in value]):
        return False
    return all([weighed(value, [row[place] for row in heights]).top > 0 for place in range(len(scale))])


def check_fit(scale, facts):
    """Raise NoFit, with a clash, if no lot fits the facts."""
    found = any_lot_or_clash(scale, facts)[1]
    if found is not None:
        raise NoFit(found)


def least_fitting(claimed, curve):
    """The least mean of a curve for all lots that fit claims, of which there is one."""
    return weighed(lot_or_clash(claimed, curve)[0], curve)


def sure_bounds(scale, facts, curve):
    """A tuple of the least and the greatest mean of a curve for all lots that fit a list of facts."""
    check_facts(scale, facts)
    check_curve(scale, curve)
    check_fit(scale, facts)
    claimed = all_claims(facts)
    return least_fitting(claimed, curve), -least_fitting(claimed, opposites(curve))


def follows(fact, others):
    """Whether a fact is true of all lots that fit some others, of which there is one."""
    claimed = all_claims(others)
    return all([
        -least_fitting(claimed, opposites(curve)) <= number
        for curve, number in claims_of(fact)
    ])


def needless(scale, facts):
    """The ascending list of the indices of the facts that follow from all the others."""
    check_facts(scale, facts)
    check_fit(scale, facts)
    found = []
    for at, fact in enumerate(facts):
        if follows(fact, [other for k, other in enumerate(facts) if k != at]):
            found.append(at)
    return found
