"""The low and the high lot [7] [40], bounds [41], polynomials that show them [42], forms [43]."""

from itertools import combinations

from firstmeans import errors, extremes, ratios, scales
from firstmeans.bends import bends_down, bends_up, dual, through
from firstmeans.curves import cover, power
from firstmeans.errors import BadCount, BadCurve, BadMeans, MeansError, NoLot, NotBent
from firstmeans.extremes import (
    bounds, high, high_forms, is_high, is_low, is_over, is_under, low, low_forms, over, under,
)
from firstmeans.known import bar, has
from firstmeans.ratios import Ratio
from firstmeans.scales import Scale, uses
from tests import helpers
from tests.helpers import (
    Case, half, means_that_lots_have, means_that_no_lot_has, odd_values, strange_values, texts, trio, wrong_counts,
    wrong_curves, wrong_lists, wrong_lots, wrong_means,
)
from tests.plain import all_corners, at_marks, by_means, mean_for, plain, plains

EXAMPLES = """
    >>> scale = Scale([0, 1, 2])
    >>> [[share.text() for share in lot] for lot in [low(scale, [1]), high(scale, [1])]], low_forms(scale, 1), high_forms(scale, 1)
    ([['0', '1', '0'], ['1/2', '0', '1/2']], [[0, 1], [1, 2]], [[0, 2]])
    >>> [number.text() for number in bounds(scale, [1], [0, 0, 1])], is_under(scale, [1], [0, 0, 1], [-1, 1]), is_over(scale, [1], [0, 0, 1], [0, Ratio(1, 2)])
    (['0', '1/2'], True, True)
    >>> low_forms(scale, 3)
    raises BadCount(3)
"""


def quartet():
    return Scale([0, 1, 2, 4])


def opposite(curve):
    return [Ratio(0) - number for number in curve]


def ways_bent(scale, order):
    """Curves of a scale that bend up in an order: duals, a power, a flat one and the sum of some of them."""
    found = [power(scale, order), [half(1)] * len(scale)]
    if order > 1:
        found.append([number * half(3) - mark for number, mark in zip(power(scale, order), scale.marks())])
    for place in range(len(scale) - order):
        found.append(dual(scale, place, order))
    return [curve for curve in found if bends_up(scale, curve, order)]


def unbent(scale, order):
    """A curve that bends neither up nor down in an order, on a scale with enough values."""
    one, other = dual(scale, 0, order), dual(scale, 1, order)
    return [up - down for up, down in zip(one, other)]


def pairings(places):
    """Whether ascending places are pairs of neighbours."""
    return len(places) % 2 == 0 and all(places[at] + 1 == places[at + 1] for at in range(0, len(places), 2))


def low_forms_word_by_word(size, count):
    found = []
    for places in combinations(range(size), count + 1):
        if pairings(places) if count % 2 == 1 else places[0] == 0 and pairings(places[1:]):
            found.append(list(places))
    return found


def high_forms_word_by_word(size, count):
    found = []
    for places in combinations(range(size), count + 1):
        if places[-1] != size - 1:
            continue
        rest = places[:-1]
        if pairings(rest) if count % 2 == 0 else len(rest) > 0 and rest[0] == 0 and pairings(rest[1:]):
            found.append(list(places))
    return found


class TheTwoLots(Case):
    def test_examples(self):
        self.run_examples(EXAMPLES, {**vars(errors), **vars(ratios), **vars(scales), **vars(extremes)})

    def test_against_all_corners(self):
        counts = set()
        for scale in helpers.scales():
            for means, _ in means_that_lots_have(scale):
                order = len(means) + 1
                counts.add(len(means))
                just = all_corners(scale, means)
                one, other = low(scale, means), high(scale, means)
                self.assert_ratios(one, " ".join(texts(one)))
                self.assert_ratios(other, " ".join(texts(other)))
                self.assertIn(plains(one), just)
                self.assertIn(plains(other), just)
                for curve in ways_bent(scale, order):
                    found = [mean_for(lot, curve) for lot in just]
                    self.assertEqual([mean_for(one, curve), mean_for(other, curve)], [min(found), max(found)])
        self.assertEqual(counts, {0, 1, 2, 3, 4})

    def test_the_next_mean_tells_them_apart(self):
        for scale in helpers.scales():
            marks = plains(scale.marks())
            for means, _ in means_that_lots_have(scale):
                just = all_corners(scale, means)
                nexts = [mean_for(lot, [mark ** (len(means) + 1) for mark in marks]) for lot in just]
                least = [lot for lot, number in zip(just, nexts) if number == min(nexts)]
                greatest = [lot for lot, number in zip(just, nexts) if number == max(nexts)]
                self.assertEqual(least, [plains(low(scale, means))])
                self.assertEqual(greatest, [plains(high(scale, means))])

    def test_some(self):
        self.assert_ratios(low(quartet(), []), "1 0 0 0")
        self.assert_ratios(high(quartet(), ()), "0 0 0 1")
        self.assert_ratios(low(quartet(), [half(3)]), "0 1/2 1/2 0")
        self.assert_ratios(high(quartet(), (half(3),)), "5/8 0 0 3/8")
        self.assert_ratios(low(quartet(), [1, 2]), "1/2 0 1/2 0")
        self.assert_ratios(high(means=[1, 2], scale=quartet()), "1/4 2/3 0 1/12")
        self.assert_ratios(low(means=[], scale=Scale([5])), "1")
        self.assert_ratios(high(Scale([5]), []), "1")
        self.assert_ratios(low(Scale([0, 1]), [Ratio(1, 3)]), "2/3 1/3")
        self.assert_ratios(high(Scale([0, 1]), [Ratio(1, 3)]), "2/3 1/3")

    def test_uses_values_of_a_form(self):
        for scale in helpers.scales():
            for means, _ in means_that_lots_have(scale):
                for lot, forms in ((low(scale, means), low_forms(scale, len(means))),
                                   (high(scale, means), high_forms(scale, len(means)))):
                    self.assertTrue(any(set(uses(scale, lot)) <= set(form) for form in forms))
                    self.assertTrue(has(scale, means, lot))

    def test_as_many_values_as_means_and_one(self):
        for scale in helpers.scales():
            for means, lot in means_that_lots_have(scale):
                if len(means) + 1 == len(scale):
                    self.assertEqual((low(scale, means), high(scale, means)), (lot, lot))

    def test_judged(self):
        scale = quartet()
        for value in ([0, half(1), half(1), 0], (0, Ratio(2, 4), half(1), Ratio(0))):
            self.assertIs(is_low(scale, [half(3)], value), True)
            self.assertIs(is_low(value=value, means=(half(3),), scale=scale), True)
            self.assertIs(is_high(scale, [half(3)], value), False)
        for value in ([Ratio(5, 8), 0, 0, Ratio(3, 8)], (Ratio(10, 16), Ratio(0), 0, Ratio(3, 8))):
            self.assertIs(is_high(scale, [half(3)], value), True)
            self.assertIs(is_high(value=value, means=(half(3),), scale=scale), True)
            self.assertIs(is_low(scale, [half(3)], value), False)
        for value in ([0, half(1), half(1)], [0, half(1), half(1), 0, 0], [half(1), half(1), 0, 0], [0, 1, 1, 0], [],
                      [half(1), 0, 0, half(1)], [[0, half(1), half(1), 0]], [False, half(1), half(1), 0],
                      [0, half(1), half(1), None], [0, 0.5, 0.5, 0], [0, "1/2", "1/2", 0]):
            self.assertIs(is_low(scale, [half(3)], value), False)
            self.assertIs(is_high(scale, [half(3)], value), False)
        for value in ([True, 0, 0, 0], [1, False, 0, 0], [1, 0, 0], [1.0, 0, 0, 0], [1, 0, 0, 0, 0]):
            self.assertIs(is_low(scale, [], value), False)
        self.assertIs(is_low(scale, [], [1, 0, 0, 0]), True)
        for value in ([0, 0, 0, True], [0, 0, False, 1], [0, 0, 0, 1.0]):
            self.assertIs(is_high(scale, [], value), False)
        self.assertIs(is_high(scale, [], [0, 0, 0, 1]), True)

    def test_judging_raises_nothing(self):
        for value in strange_values() + wrong_lots():
            self.assertIs(is_low(trio(), [1], value), False)
            self.assertIs(is_high(trio(), [1], value), False)


class Bounds(Case):
    def test_against_all_corners(self):
        ways = {"up": 0, "down": 0, "both": 0, "neither": 0}
        for scale in helpers.scales():
            for means, _ in means_that_lots_have(scale)[::2]:
                order = len(means) + 1
                just = all_corners(scale, means)
                for curve in helpers.curves(scale) + ways_bent(scale, order):
                    up, down = bends_up(scale, curve, order), bends_down(scale, curve, order)
                    ways["both" if up and down else "up" if up else "down" if down else "neither"] += 1
                    if not up and not down:
                        self.assert_not_bent(order, bounds, scale, means, curve)
                        continue
                    told = bounds(scale, means, curve)
                    self.assertIs(type(told), tuple)
                    self.assert_ratios(list(told), " ".join(texts(told)))
                    found = [mean_for(lot, curve) for lot in just]
                    self.assertEqual(plains(told), [min(found), max(found)])
        self.assertGreater(min(ways.values()), 100)

    def assert_not_bent(self, order, call, /, *values, **named):
        with self.assertRaises(NotBent) as caught:
            call(*values, **named)
        self.assertIs(type(caught.exception), NotBent)
        self.assertEqual(vars(caught.exception), {"order": order})
        self.assertIs(type(caught.exception.order), int)

    def test_some(self):
        self.assertEqual(texts(bounds(quartet(), [half(3)], [0, 1, 4, 16])), ["5/2", "6"])
        self.assertEqual(texts(bounds(quartet(), (half(3),), (0, -1, -4, -16))), ["-6", "-5/2"])
        self.assertEqual(texts(bounds(quartet(), [half(3)], [1, 3, 5, 9])), ["4", "4"])
        self.assertEqual(texts(bounds(curve=[3, 1, 0, -2], means=[], scale=quartet())), ["-2", "3"])
        self.assertEqual(texts(bounds(Scale([5]), [], [7])), ["7", "7"])
        self.assertEqual(texts(bounds(quartet(), [1, 2, 5], [1, 0, 0, 1])), ["5/12", "5/12"])

    def test_not_bent(self):
        for size, d in ((3, 0), (4, 1), (5, 2), (6, 3), (7, 4), (8, 0), (8, 1), (8, 4)):
            scale = Scale([mark * mark for mark in range(size)])
            means = means_that_lots_have(scale)[0][0] + [0] * d
            curve = unbent(scale, d + 1)
            for call in (bounds, under, over):
                self.assert_not_bent(d + 1, call, scale, means, curve)
                self.assert_not_bent(d + 1, call, curve=tuple(curve), means=tuple(means), scale=scale)
            for call in (is_under, is_over):
                self.assert_not_bent(d + 1, call, scale, means, curve, [0])
                self.assert_not_bent(d + 1, call, value=None, curve=curve, means=means, scale=scale)

    def test_not_bent_ahead_of_no_lot(self):
        scale = Scale([0, 1, 2, 4, 5, 6, 8, 9])
        for means in means_that_no_lot_has(scale):
            curve = unbent(scale, len(means) + 1)
            for call in (bounds, under, over):
                self.assert_not_bent(len(means) + 1, call, scale, means, curve)
            for call in (is_under, is_over):
                self.assert_not_bent(len(means) + 1, call, scale, means, curve, None)

    def test_covers(self):
        scale = Scale([0, 1, 2, 3, 4])
        self.assertEqual(texts(bounds(scale, [2], cover(scale, 2))), ["0", "1"])
        self.assertEqual(texts(bounds(scale, [half(1)], cover(scale, 3))), ["0", "1/8"])


class Errors(Case):
    def with_curves(self):
        """The functions with a curve, each with the value that may stand behind it."""
        return [(bounds, []), (under, []), (over, []), (is_under, [[0]]), (is_over, [None])]

    def test_wrong_means_ahead_of_all_else(self):
        for scale in (Scale([4]), Scale([0, 1]), trio(), helpers.scales()[-3], helpers.scales()[-1]):
            for means in wrong_means(scale):
                for call in (low, high):
                    self.assert_bad(BadMeans, means, call, scale, means)
                    self.assert_bad(BadMeans, means, call, means=means, scale=scale)
                for call in (is_low, is_high):
                    self.assert_bad(BadMeans, means, call, scale, means, None)
                    self.assert_bad(BadMeans, means, call, value=[1], means=means, scale=scale)
                for call, values in self.with_curves():
                    self.assert_bad(BadMeans, means, call, scale, means, [0] * len(scale), *values)
                    self.assert_bad(BadMeans, means, call, scale, means, None, *values)

    def test_wrong_curves_ahead_of_no_lot(self):
        for means in ([], [1], (1, 2), [4], [1, half(1)]):
            for curve in wrong_curves():
                for call, values in self.with_curves():
                    self.assert_bad(BadCurve, curve, call, trio(), means, curve, *values)
                self.assert_bad(BadCurve, curve, bounds, curve=curve, means=means, scale=trio())
                self.assert_bad(BadCurve, curve, is_over, value=None, curve=curve, means=means, scale=trio())

    def test_no_lot(self):
        for scale in helpers.scales():
            for means in means_that_no_lot_has(scale):
                told = bar(scale, means)
                for call in (low, high):
                    self.assert_no_lot(told, call, scale, means)
                    self.assert_no_lot(told, call, means=tuple(means), scale=scale)
                for call in (is_low, is_high):
                    self.assert_no_lot(told, call, scale, means, None)
                    self.assert_no_lot(told, call, value=[1] * len(scale), means=means, scale=scale)
                for call, values in self.with_curves():
                    self.assert_no_lot(told, call, scale, means, [0] * len(scale), *values)
                    self.assert_no_lot(told, call, scale, tuple(means), power(scale, len(means) + 1), *values)


class ShownByPolynomials(Case):
    def check_under(self, scale, means, curve, least):
        told = under(scale, means, curve)
        self.assert_ratios(told, " ".join(texts(told)))
        self.assertTrue(1 <= len(told) <= len(means) + 1)
        self.assertTrue(all(number <= above for number, above in zip(at_marks(scale, told), plains(curve))))
        self.assertEqual(by_means(means, told), plain(least))
        self.assertIs(is_under(scale, means, curve, told), True)
        self.assertIs(is_under(scale, means, curve, [told[0] - Ratio(1, 10 ** 20), *told[1:]]), False)
        self.assertIs(is_under(scale, means, curve, [told[0] + Ratio(1, 10 ** 20), *told[1:]]), False)

    def check_over(self, scale, means, curve, greatest):
        told = over(scale, means, curve)
        self.assert_ratios(told, " ".join(texts(told)))
        self.assertTrue(1 <= len(told) <= len(means) + 1)
        self.assertTrue(all(number >= below for number, below in zip(at_marks(scale, told), plains(curve))))
        self.assertEqual(by_means(means, told), plain(greatest))
        self.assertIs(is_over(scale, means, curve, told), True)
        self.assertIs(is_over(scale, means, curve, [told[0] - Ratio(1, 10 ** 20), *told[1:]]), False)
        self.assertIs(is_over(scale, means, curve, [told[0] + Ratio(1, 10 ** 20), *told[1:]]), False)

    def test_they_lie_under_and_over_and_touch(self):
        for scale in helpers.scales():
            for means, _ in means_that_lots_have(scale)[::3]:
                order = len(means) + 1
                for curve in ways_bent(scale, order)[:4]:
                    for bent in (curve, opposite(curve)):
                        least, greatest = bounds(scale, means, bent)
                        self.check_under(scale, means, bent, least)
                        self.check_over(scale, means, bent, greatest)

    def test_one_value(self):
        self.assert_ratios(under(Scale([5]), [], [half(7)]), "7/2")
        self.assert_ratios(over(Scale([5]), (), (half(7),)), "7/2")

    def test_some(self):
        self.assert_ratios(under(curve=[0, 1, 4, 16], means=[half(3)], scale=quartet()), "-2 3")
        self.assert_ratios(over(curve=(0, 1, 4, 16), means=(half(3),), scale=quartet()), "0 4")
        self.assert_ratios(under(quartet(), [half(3)], [0, -1, -4, -16]), "0 -4")
        self.assert_ratios(over(quartet(), [half(3)], [0, -1, -4, -16]), "2 -3")

    def test_polynomials_that_touch_or_cross(self):
        scale, means, curve = quartet(), [half(3)], [0, 1, 4, 16]
        for value in ([-2, 3], (Ratio(-2), 3)):
            self.assertIs(is_under(scale, means, curve, value), True)
            self.assertIs(is_under(value=value, curve=tuple(curve), means=tuple(means), scale=scale), True)
            self.assertIs(is_over(scale, means, curve, value), False)
        # The first ones cross the curve, though their mean is right; the others lie under it with a lesser mean.
        for value in ([half(5)], [half(5), 0], [-5, 5], [-2, 3, 0], [0, 1], [-3, 3], [0], [], [-2]):
            self.assertIs(is_under(scale, means, curve, value), False)
        for value in ([0, 4], (0, Ratio(4))):
            self.assertIs(is_over(scale, means, curve, value), True)
            self.assertIs(is_over(value=value, curve=tuple(curve), means=tuple(means), scale=scale), True)
            self.assertIs(is_under(scale, means, curve, value), False)
        for value in ([6], [6, 0], [-3, 6], [0, 4, 0], [1, 4], [16], [0, 5], [], [-1, Ratio(14, 3)]):
            self.assertIs(is_over(scale, means, curve, value), False)

    def test_more_than_one_may_touch(self):
        # At one value alone a line may have any of many slopes.
        scale, means, curve = Scale([0, 1, 2]), [1], [1, 0, 1]
        for value in ([0, 0], [0], [-1, 1], [1, -1], [half(1), half(-1)]):
            self.assertIs(is_under(scale, means, curve, value), True)
        for value in ([-2, 2], [Ratio(-11, 10), Ratio(11, 10)], [-1], [0, half(1)]):
            self.assertIs(is_under(scale, means, curve, value), False)
        for value in ([1], [1, 0]):
            self.assertIs(is_over(scale, means, curve, value), True)
        for value in ([0, 1], [2, -1], [2]):
            self.assertIs(is_over(scale, means, curve, value), False)

    def test_judging_raises_nothing(self):
        for value in strange_values() + wrong_lists(2) + [[0, 0.0], [False, 0], [0, None], {0: 0}]:
            self.assertIs(is_under(trio(), [1], [0, 0, 0], value), False)
            self.assertIs(is_over(trio(), [1], [0, 0, 0], value), False)


class Forms(Case):
    def test_word_by_word(self):
        for size in range(1, 9):
            scale = Scale(list(range(size)))
            for count in range(min(5, size)):
                for told, wanted in ((low_forms(scale, count), low_forms_word_by_word(size, count)),
                                     (high_forms(scale, count), high_forms_word_by_word(size, count))):
                    self.assertIs(type(told), list)
                    self.assertEqual(told, wanted)
                    self.assertEqual(told, sorted(told))
                    self.assertGreater(len(told), 0)
                    for form in told:
                        self.assert_places(form, form)
                        self.assertEqual(len(form), count + 1)

    def test_some(self):
        five = Scale([-2, 0, half(1), 3, 4])
        self.assertEqual((low_forms(five, 0), high_forms(five, 0)), ([[0]], [[4]]))
        self.assertEqual((low_forms(five, 1), high_forms(five, 1)), ([[0, 1], [1, 2], [2, 3], [3, 4]], [[0, 4]]))
        self.assertEqual(low_forms(count=2, scale=five), [[0, 1, 2], [0, 2, 3], [0, 3, 4]])
        self.assertEqual(high_forms(count=2, scale=five), [[0, 1, 4], [1, 2, 4], [2, 3, 4]])
        self.assertEqual(low_forms(five, 3), [[0, 1, 2, 3], [0, 1, 3, 4], [1, 2, 3, 4]])
        self.assertEqual(high_forms(five, 3), [[0, 1, 2, 4], [0, 2, 3, 4]])
        self.assertEqual((low_forms(five, 4), high_forms(five, 4)), ([[0, 1, 2, 3, 4]], [[0, 1, 2, 3, 4]]))
        self.assertEqual((low_forms(Scale([7]), 0), high_forms(Scale([7]), 0)), ([[0]], [[0]]))

    def test_wrong_counts(self):
        for size in range(1, 9):
            scale = Scale(list(range(size)))
            for count in wrong_counts(min(4, size - 1)) + [5, 8, 9, Ratio(2), [0]]:
                self.assert_bad(BadCount, count, low_forms, scale, count)
                self.assert_bad(BadCount, count, high_forms, scale, count)
                self.assert_bad(BadCount, count, low_forms, count=count, scale=scale)
                self.assert_bad(BadCount, count, high_forms, count=count, scale=scale)

    def test_polynomials_through_forms_lie_under_and_over(self):
        for scale in helpers.scales():
            for count in range(min(5, len(scale))):
                for curve in ways_bent(scale, count + 1):
                    for form in low_forms(scale, count):
                        told = at_marks(scale, through(scale, form, [curve[place] for place in form]))
                        self.assertTrue(all(number <= above for number, above in zip(told, plains(curve))))
                    for form in high_forms(scale, count):
                        told = at_marks(scale, through(scale, form, [curve[place] for place in form]))
                        self.assertTrue(all(number >= below for number, below in zip(told, plains(curve))))


class NothingChanges(Case):
    def calls(self, means, curve, value):
        scale = quartet()
        return [
            lambda: low(scale, means), lambda: high(scale, means), lambda: is_low(scale, means, curve),
            lambda: is_high(scale, means, curve), lambda: bounds(scale, means, curve),
            lambda: under(scale, means, curve), lambda: over(scale, means, curve),
            lambda: is_under(scale, means, curve, value), lambda: is_over(scale, means, curve, value),
            lambda: low_forms(scale, 1), lambda: high_forms(scale, 2), lambda: high_forms(scale, 0),
            lambda: low_forms(scale, 3),
        ]

    def test_what_is_passed_is_not_changed(self):
        given = [[half(3)], [Ratio(0), 1, 4, 16], [-2, Ratio(3)]]
        before = helpers.repr_of(given)
        for call in self.calls(*given):
            call()
            self.assertEqual(helpers.repr_of(given), before)

    def test_what_is_returned_is_new(self):
        given = [[half(3)], [Ratio(0), Ratio(1), Ratio(4), Ratio(16)], [Ratio(-2), Ratio(3)]]
        before = helpers.repr_of(given)
        for call in self.calls(*given):
            self.assert_new_lists(call)
            self.assertEqual(helpers.repr_of(given), before)

    def test_a_bar_in_an_error_is_new(self):
        def caught():
            try:
                low(trio(), [4])
            except NoLot as error:
                return error.bar
        self.assert_new_lists(caught)

    def test_equal_arguments_tell_equal_things(self):
        lists = [[half(3)], [0, 1, 4, 16], [-2, 3]]
        tuples = [(Ratio(6, 4),), (Ratio(0), Ratio(1), 4, Ratio(16)), (Ratio(-2), Ratio(3))]
        for one, other in zip(self.calls(*lists), self.calls(*tuples)):
            self.assertEqual(helpers.repr_of(one()), helpers.repr_of(other()))

    def test_wrong_arguments_are_not_changed(self):
        for means, curve in (([1, True], [0, 1, 2]), ([1], [0, 1, None]), ([4], [0, 1, 9]), ([1], [0, 1])):
            before = helpers.repr_of((means, curve))
            for call in (bounds, under, over):
                with self.assertRaises(MeansError):
                    call(trio(), means, curve)
            self.assertEqual(helpers.repr_of((means, curve)), before)
