"""How two lots stand to each other for all curves that bend up in an order."""

from firstmeans.bends import bends_up, check_order, dual
from firstmeans.curves import power
from firstmeans.ratios import as_ratio, opposites, weighed
from firstmeans.scales import check_lot, is_curve


def check_lots(scale, one, other):
    """Raise BadLot for any of two values that is no lot of a scale."""
    check_lot(scale, one)
    check_lot(scale, other)


def check_pair(scale, one, other, order):
    """Raise an error unless two values are lots, and a third one an order of the stencils of a scale."""
    check_lots(scale, one, other)
    check_order(scale, order)


def shifts(one, other):
    """The list of the shares of the other lot less those of the one."""
    return [as_ratio(share) - less for less, share in zip(one, other)]


def leaning(scale, order):
    """Curves of which each one that bends up in an order is a sum, with weights from 0 on, and a constant."""
    found = [dual(scale, place, order) for place in range(len(scale) - order)]
    for exponent in range(1, order):
        raised = power(scale, exponent)
        found.append(raised)
        found.append(opposites(raised))
    return found


def weights(scale, one, other, order):
    """The numbers with which the stencils of an order sum to the difference of two lots, or None."""
    check_pair(scale, one, other, order)
    moved = shifts(one, other)
    for exponent in range(1, order):
        if weighed(power(scale, exponent), moved) != 0:
            return None
    # The products of a stencil with its own dual sum to 1, and with each other dual to 0.
    return [weighed(dual(scale, place, order), moved) for place in range(len(scale) - order)]


def parting(scale, one, other, order):
    """A curve that bends up in an order and whose mean for the one lot is greater, or None."""
    check_pair(scale, one, other, order)
    moved = shifts(one, other)
    for curve in leaning(scale, order):
        if weighed(curve, moved) < 0:
            return curve
    return None


def stands_under(scale, one, other, order):
    """Whether no curve that bends up in an order has a greater mean for the one lot than for the other."""
    return parting(scale, one, other, order) is None


def is_parting(scale, one, other, order, value):
    """Whether any value is a curve such as parting tells."""
    check_pair(scale, one, other, order)
    if not is_curve(scale, value) or not bends_up(scale, value, order):
        return False
    return weighed(value, shifts(one, other)) < 0


def first_apart(scale, one, other):
    """The least integer from 1 on for which the means of two lots differ, or None."""
    check_lots(scale, one, other)
    moved = shifts(one, other)
    for exponent in range(1, len(scale)):
        if weighed(power(scale, exponent), moved) != 0:
            return exponent
    return None


def crossings(scale, one, other):
    """How often the shares of the other lot less those of the one change their sign."""
    check_lots(scale, one, other)
    signs = [share.top > 0 for share in shifts(one, other) if share != 0]
    return len([True for before, behind in zip(signs, signs[1:]) if before != behind])
