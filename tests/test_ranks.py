"""How two lots stand to each other: weights [50], under and parting curves [51], the only order [52], crossings [53]."""

from firstmeans import errors, ranks, ratios, scales
from firstmeans.bends import dual, stencil
from firstmeans.curves import power
from firstmeans.errors import BadLot, BadOrder, MeansError
from firstmeans.extremes import high, low
from firstmeans.known import corners
from firstmeans.ranks import crossings, first_apart, is_parting, parting, stands_under, weights
from firstmeans.ratios import Ratio
from firstmeans.scales import Scale
from tests import helpers
from tests.helpers import (
    Case, half, means_that_lots_have, strange_values, texts, trio, wrong_curves, wrong_lots, wrong_orders,
)
from tests.plain import mean_for, plain, plains, slopes

EXAMPLES = """
    >>> scale = Scale([0, 1, 2])
    >>> one, other = [0, 1, 0], [Ratio(1, 2), 0, Ratio(1, 2)]
    >>> [weight.text() for weight in weights(scale, one, other, 2)], first_apart(scale, one, other), crossings(scale, one, other)
    (['1'], 2, 2)
    >>> stands_under(scale, one, other, 2), stands_under(scale, one, other, 1), is_parting(scale, other, one, 2, [1, 0, 1])
    (True, False, True)
    >>> weights(scale, one, [0, 1], 2)
    raises BadLot([0, 1])
"""

QUINTET = Scale([-1, 0, half(1), 2, 5])


def pairs(scale):
    """Pairs of lots: any two, the same one twice, and two with the same first means, of which one is under the other."""
    found = helpers.lots(scale)
    pairs = [(found[at], found[-1 - at]) for at in range(len(found))] + list(zip(found, found[1:])) + [(found[0],) * 2]
    for means, lot in means_that_lots_have(scale)[::3]:
        one, other = low(scale, means), high(scale, means)
        pairs += [(one, other), (other, one), (one, lot), (lot, other), (other, lot), (tuple(lot), list(lot))]
    for means, _ in means_that_lots_have(scale)[1::7]:
        found = corners(scale, means)
        pairs += list(zip(found, found[1:]))
    return pairs


def apart(scale, one, other):
    """The least exponent at which the means differ, or None."""
    marks = plains(scale.marks())
    for k in range(1, len(marks)):
        raised = [mark ** k for mark in marks]
        if mean_for(one, raised) != mean_for(other, raised):
            return k
    return None


def moved(one, other):
    return [share - less for less, share in zip(plains(one), plains(other))]


class Weights(Case):
    def test_examples(self):
        self.run_examples(EXAMPLES, {**vars(errors), **vars(ratios), **vars(scales), **vars(ranks)})

    def check_weights(self, scale, one, other, order, told):
        self.assert_ratios(told, " ".join(texts(told)))
        self.assertEqual(len(told), len(scale) - order)
        stencils = [plains(stencil(scale, place, order)) for place in range(len(told))]
        sums = [sum(plain(weight) * row[at] for weight, row in zip(told, stencils)) for at in range(len(scale))]
        self.assertEqual(sums, moved(one, other))

    def test_they_tell_the_shares_exactly_if_the_means_ahead_are_the_same(self):
        found = {True: 0, False: 0}
        for scale in helpers.scales():
            for one, other in pairs(scale):
                first = apart(scale, one, other)
                for order in range(1, len(scale)):
                    told = weights(scale, one, other, order)
                    found[told is None] += 1
                    if first is not None and first < order:
                        self.assertIsNone(told)
                    else:
                        self.check_weights(scale, one, other, order, told)
        self.assertGreater(min(found.values()), 500)

    def test_some(self):
        one, other = [0, 1, 0], [half(1), 0, half(1)]
        scale = Scale([0, 1, 2])
        self.assert_ratios(weights(scale, one, other, 1), "-1/2 1/2")
        self.assert_ratios(weights(scale, other, one, 2), "-1")
        self.assert_ratios(weights(scale, tuple(one), tuple(other), 2), "1")
        self.assert_ratios(weights(order=2, other=other, one=one, scale=scale), "1")
        self.assert_ratios(weights(scale, one, one, 1), "0 0")
        self.assert_ratios(weights(scale, other, other, 2), "0")
        self.assertIsNone(weights(scale, [1, 0, 0], one, 2))
        self.assert_ratios(weights(Scale([-3, 1]), [1, 0], [0, 1], 1), "4")


class Under(Case):
    def check_parting(self, scale, one, other, order):
        told = parting(scale, one, other, order)
        self.assert_ratios(told, " ".join(texts(told)))
        self.assertEqual(len(told), len(scale))
        self.assertGreaterEqual(min(slopes(scale, told, order)), 0)
        self.assertGreater(mean_for(one, told), mean_for(other, told))
        self.assertIs(is_parting(scale, one, other, order, told), True)
        self.assertIs(is_parting(scale, other, one, order, told), False)

    def test_weights_or_a_parting_curve_show_it(self):
        # Weights from 0 on show that one stands under the other, as divided differences are then from 0 on.
        found = {True: 0, False: 0}
        for scale in helpers.scales():
            for one, other in pairs(scale):
                for order in range(1, len(scale)):
                    told = weights(scale, one, other, order)
                    under = told is not None and all(plain(weight) >= 0 for weight in told)
                    found[under] += 1
                    self.assertIs(stands_under(scale, one, other, order), under)
                    if under:
                        self.assertIsNone(parting(scale, one, other, order))
                    else:
                        self.check_parting(scale, one, other, order)
        self.assertGreater(min(found.values()), 300)

    def test_the_low_lot_under_all_and_all_under_the_high_one(self):
        for scale in helpers.scales():
            for means, lot in means_that_lots_have(scale):
                order = len(means) + 1
                if order < len(scale):
                    self.assertIs(stands_under(scale, low(scale, means), lot, order), True)
                    self.assertIs(stands_under(scale, lot, high(scale, means), order), True)

    def test_some(self):
        scale = Scale([0, 1, 2])
        one, other = [0, 1, 0], (half(1), 0, half(1))
        self.assertIs(stands_under(order=2, other=other, one=one, scale=scale), True)
        self.assertIs(stands_under(scale, other, one, 2), False)
        self.assertIs(stands_under(scale, one, one, 1), True)
        self.assertIs(stands_under(scale, [1, 0, 0], one, 1), True)
        self.assertIs(stands_under(scale, one, [1, 0, 0], 1), False)
        self.assertIsNone(parting(other=other, one=one, order=2, scale=scale))
        self.assert_ratios(parting(scale, [0, half(1), half(1)], [half(1), 0, half(1)], 1), "0 1 1")

    def test_means_ahead_that_differ(self):
        scale = Scale([0, 1, 2])
        for one, other in (([1, 0, 0], [0, 0, 1]), ([0, 0, 1], [1, 0, 0])):
            self.assertIsNone(weights(scale, one, other, 2))
            self.check_parting(scale, one, other, 2)

    def test_parting_curves_and_near_misses(self):
        scale, one, other = QUINTET, [0, half(1), 0, half(1), 0], [half(1), 0, 0, 0, half(1)]
        self.assertIs(stands_under(scale, one, other, 1), False)
        for value in ([0, 1, 1, 1, 1], (0, half(1), half(1), half(1), half(1)), [-9, -8, -8, -8, -8], [0, 1, 1, 2, 2]):
            self.assertIs(is_parting(scale, one, other, 1, value), True)
            self.assertIs(is_parting(value=value, order=1, other=other, one=one, scale=scale), True)
        # The first ones do not part the lots; the others fall somewhere, or are no curves.
        for value in ([0, 0, 0, 0, 0], [0, 0, 0, 0, 1], [0, 1, 1, 1, 2], [-1, 0, half(1), 2, 5], [7] * 5,
                      [0, 2, 1, 1, 1], [0, 1, 1, 1, 0], [0, 1, 1, 1, Ratio(99, 100)], [1, 3, 2, 3, 4],
                      [0, 1, 1, 1], [0, 1, 1, 1, 1, 1], [False, 1, 1, 1, 1], [0, True, 1, 1, 1], [0, 1, None, 1, 1],
                      [[0, 1, 1, 1, 1]], {"a": [0, 1, 1, 1, 1]}):
            self.assertIs(is_parting(scale, one, other, 1, value), False)

    def test_parting_curves_of_higher_orders(self):
        scale = Scale([0, 1, 2, 3])
        one, other = [half(1), 0, 0, half(1)], [0, half(1), half(1), 0]
        for value in ([0, -1, -1, 0], [1, 0, 0, 1], [3, 1, half(1), 2], power(scale, 2), dual(scale, 1, 2)):
            self.assertIs(is_parting(scale, one, other, 2, value), True)
        # Lines do not part the lots; the last curve would, but its second step falls more than its first one.
        for value in ([0, 1, 1, 0], [0, 0, 1, 1], [0, 1, 2, 3], [0, 0, 0, 0], [0, -1, Ratio(-11, 5), 0]):
            self.assertIs(is_parting(scale, one, other, 2, value), False)
        self.assertIs(is_parting(scale, one, other, 3, [0, -1, -1, 0]), True)
        self.assertIs(is_parting(scale, other, one, 3, [0, 1, 1, 0]), True)
        self.assertIs(is_parting(scale, other, one, 3, [0, 1, 1, Ratio(-1, 100)]), False)

    def test_nothing_parts_a_lot_from_itself(self):
        for value in ([0, 1, 3], [0, 0, 0], [0, 1, 1], power(trio(), 2)):
            for order in (1, 2):
                self.assertIs(is_parting(trio(), [half(1), 0, half(1)], (half(1), 0, half(1)), order, value), False)
                self.assertIsNone(parting(trio(), [half(1), 0, half(1)], (half(1), 0, half(1)), order))

    def test_judging_raises_nothing(self):
        for value in strange_values() + wrong_curves():
            self.assertIs(is_parting(trio(), [0, 0, 1], [1, 0, 0], 1, value), False)
        self.assertIs(is_parting(trio(), [0, 0, 1], [1, 0, 0], 1, [0, 0, 1]), True)


class TheOnlyOrder(Case):
    def test_by_its_meaning(self):
        found = set()
        for scale in helpers.scales():
            for one, other in pairs(scale):
                told = first_apart(scale, one, other)
                self.assertEqual(told, apart(scale, one, other))
                self.assertIn(type(told), (int, type(None)))
                self.assertIs(told is None, plains(one) == plains(other))
                self.assertEqual(first_apart(scale, other, one), told)
                found.add(told)
        self.assertEqual(found, {None, 1, 2, 3, 4, 5})

    def test_one_order_at_most(self):
        for scale in helpers.scales():
            for one, other in pairs(scale):
                told = first_apart(scale, one, other)
                ways = [(order, stands_under(scale, one, other, order), stands_under(scale, other, one, order))
                        for order in range(1, len(scale))]
                if told is None:
                    self.assertEqual(ways, [(order, True, True) for order in range(1, len(scale))])
                for order, up, down in ways:
                    if told is not None:
                        self.assertFalse(up and down)
                        self.assertFalse((up or down) and order != told)

    def test_some(self):
        scale = Scale([0, 1, 2])
        self.assertEqual(first_apart(scale, [0, 1, 0], [half(1), 0, half(1)]), 2)
        self.assertEqual(first_apart(scale, [0, 1, 0], (1, 0, 0)), 1)
        self.assertIsNone(first_apart(other=[0, Ratio(1), 0], one=(0, 1, Ratio(0)), scale=scale))
        self.assertIsNone(first_apart(Scale([9]), [1], [Ratio(1)]))
        self.assertEqual(first_apart(helpers.scales()[-1], *[
            [Ratio(number, 128) if number > 0 else 0 for number in row] for row in (
                [2, 0, 42, 0, 70, 0, 14, 0], [0, 14, 0, 70, 0, 42, 0, 2])]), 1)

    def test_apart_at_the_last_order_only(self):
        # Shares that differ by a multiple of the one stencil of the order 7.
        scale = helpers.scales()[-1]
        told = plains(stencil(scale, 0, 7))
        part = Ratio(1, 8)
        shift = part.over(max([Ratio(abs(number).numerator, abs(number).denominator) for number in told], key=plain))
        other = [part + shift * Ratio(number.numerator, number.denominator) for number in told]
        self.assertEqual(first_apart(scale, [part] * 8, other), 7)
        self.assert_ratios(weights(scale, [part] * 8, other, 7), shift.text())
        self.assertIs(stands_under(scale, [part] * 8, other, 7), True)
        self.assertIs(stands_under(scale, other, [part] * 8, 7), False)
        self.assertEqual(crossings(scale, other, [part] * 8), 7)


class Crossings(Case):
    def test_by_their_meaning(self):
        found = set()
        for scale in helpers.scales():
            for one, other in pairs(scale):
                signs = [share > 0 for share in moved(one, other) if share != 0]
                wanted = sum(1 for at in range(1, len(signs)) if signs[at] != signs[at - 1])
                told = crossings(scale, one, other)
                self.assertIs(type(told), int)
                self.assertEqual(told, wanted)
                found.add(wanted)
                first = apart(scale, one, other)
                if first is not None:
                    self.assertGreaterEqual(told, first)
                if first is not None and told == first:
                    self.assertIs(stands_under(scale, one, other, first), signs[-1])
                    self.assertIs(stands_under(scale, other, one, first), not signs[-1])
        self.assertGreaterEqual(found, {0, 1, 2, 3, 4, 5})

    def test_shares_that_are_the_same_are_left_out(self):
        scale, tenth = QUINTET, [Ratio(1, 10)] * 5
        one = [number + Ratio(1, 10) for number in tenth]
        for shift, wanted in (([1, 0, -1, 0, 0], 1), ([1, 0, 0, 0, -1], 1), ([1, 0, 1, 0, -2], 1),
                              ([1, 0, -2, 0, 1], 2), ([1, -1, 0, -1, 1], 2), ([0, 1, -2, 1, 0], 2),
                              ([1, -1, 0, 1, -1], 3), ([1, -1, 1, -2, 1], 4), ([0, 0, 0, 0, 0], 0)):
            other = [number + Ratio(part, 10) for number, part in zip(one, shift)]
            self.assertEqual(crossings(scale, one, other), wanted)
            self.assertEqual(crossings(other=tuple(one), one=tuple(other), scale=scale), wanted)


class Errors(Case):
    def with_orders(self):
        return [(weights, []), (stands_under, []), (parting, []), (is_parting, [[0, 1, 3]]), (is_parting, [None])]

    def test_wrong_lots(self):
        right = [half(1), 0, half(1)]
        for lot in wrong_lots():
            for call in (first_apart, crossings):
                self.assert_bad(BadLot, lot, call, trio(), lot, right)
                self.assert_bad(BadLot, lot, call, trio(), right, lot)
                self.assert_bad(BadLot, lot, call, trio(), lot, None)
                self.assert_bad(BadLot, lot, call, other=lot, one=right, scale=trio())
                self.assert_bad(BadLot, lot, call, other=[0, 0, 0], one=lot, scale=trio())
            for call, values in self.with_orders():
                self.assert_bad(BadLot, lot, call, trio(), lot, right, 1, *values)
                self.assert_bad(BadLot, lot, call, trio(), right, lot, 1, *values)
                self.assert_bad(BadLot, lot, call, trio(), lot, [1, 1, 1], 0, *values)
                self.assert_bad(BadLot, lot, call, trio(), right, lot, None, *values)
            self.assert_bad(BadLot, lot, weights, order=0, other=lot, one=right, scale=trio())
            self.assert_bad(BadLot, lot, is_parting, value=7, order=0, other=lot, one=right, scale=trio())

    def test_wrong_orders(self):
        for scale in (Scale([4]), Scale([0, 1]), trio(), helpers.scales()[-1]):
            lots = helpers.lots(scale)
            for order in wrong_orders(len(scale) - 1) + [len(scale), True]:
                for call, values in self.with_orders():
                    self.assert_bad(BadOrder, order, call, scale, lots[0], lots[-1], order, *values)
                    self.assert_bad(BadOrder, order, call, scale, lots[-1], lots[-1], order, *values)
                self.assert_bad(BadOrder, order, parting, order=order, other=lots[0], one=lots[-1], scale=scale)
        self.assert_ratios(weights(trio(), [1, 0, 0], [1, 0, 0], 2), "0")


class NothingChanges(Case):
    def calls(self, one, other, value):
        scale = Scale([0, 1, 2])
        return [
            lambda: weights(scale, one, other, 1), lambda: weights(scale, one, other, 2),
            lambda: weights(scale, other, other, 2), lambda: parting(scale, other, one, 2),
            lambda: parting(scale, one, other, 1), lambda: stands_under(scale, one, other, 2),
            lambda: is_parting(scale, other, one, 2, value), lambda: first_apart(scale, one, other),
            lambda: crossings(scale, one, other), lambda: parting(scale, [1, 0, 0], other, 2),
            lambda: parting(scale, other, [1, 0, 0], 2),
        ]

    def test_what_is_passed_is_not_changed(self):
        given = [[0, Ratio(1), 0], [half(1), 0, half(1)], [1, 0, Ratio(1)]]
        before = helpers.repr_of(given)
        for call in self.calls(*given):
            call()
            self.assertEqual(helpers.repr_of(given), before)

    def test_what_is_returned_is_new(self):
        given = [[0, Ratio(1), 0], [half(1), 0, half(1)], [1, 0, Ratio(1)]]
        before = helpers.repr_of(given)
        for call in self.calls(*given):
            self.assert_new_lists(call)
            self.assertEqual(helpers.repr_of(given), before)

    def test_equal_arguments_tell_equal_things(self):
        lists = [[0, 1, 0], [half(1), 0, half(1)], [1, 0, 1]]
        tuples = [(Ratio(0), Ratio(1), 0), (Ratio(2, 4), Ratio(0), half(1)), (Ratio(1), Ratio(0), 1)]
        for one, other in zip(self.calls(*lists), self.calls(*tuples)):
            self.assertEqual(helpers.repr_of(one()), helpers.repr_of(other()))

    def test_wrong_arguments_are_not_changed(self):
        for one, other, order in (([1, True], [1, 0, 0], 1), ([1, 0, 0], [[1], 0], 1), ([1, 0, 0], [0, 0, 1], [1])):
            before = helpers.repr_of((one, other, order))
            for call in (weights, parting, stands_under):
                with self.assertRaises(MeansError):
                    call(trio(), one, other, order)
            self.assertEqual(helpers.repr_of((one, other, order)), before)
