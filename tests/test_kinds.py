"""Lots of two kinds: all under all [100], rises [101], both at once [102]."""

from itertools import product

from firstmeans import errors, kinds, ratios, scales
from firstmeans.errors import BadCurve, BadMeans, BadNumber, BadOrder, MeansError, NoLot
from firstmeans.extremes import high, low
from firstmeans.kinds import against, all_under, both, greatest_rise, is_against, least_rise
from firstmeans.known import bar, corners, has, some_lot
from firstmeans.ranks import stands_under
from firstmeans.ratios import Ratio
from firstmeans.scales import Scale, is_lot, means_of
from firstmeans.sums import mixture
from tests import helpers
from tests.helpers import (
    Case, half, means_that_lots_have, means_that_no_lot_has, strange_values, texts, trio, wrong_curves, wrong_lots,
    wrong_means, wrong_numbers, wrong_orders,
)
from tests.plain import all_corners, mean_for, plains, slopes

EXAMPLES = """
    >>> scale = Scale([0, 1, 2])
    >>> all_under(scale, [0], [1], 1), all_under(scale, [1], [1], 2), is_against(scale, [Ratio(1, 2)], [1], 1, ([Ratio(3, 4), 0, Ratio(1, 4)], [0, 1, 0], [0, 0, 1]))
    (True, False, True)
    >>> least_rise(scale, [1], [2], [0, 0, 1]).text(), greatest_rise(scale, [1], [2], [0, 0, 1]).text(), [number.text() for number in both(scale, [1, 1], [2], Ratio(1, 2))]
    ('1/2', '1', ['3/2'])
    >>> all_under(scale, [0], [1], 3)
    raises BadOrder(3)
"""


def kinds_of(scale):
    """Pairs of means that lots have, of like and of unlike lengths, some with one lot only, some the same ones."""
    found = [means for means, _ in means_that_lots_have(scale)]
    pairs = [(one, other) for one, other in product(found[::5], found[::7])]
    marks = scale.marks()
    for means in found[1::4]:
        pairs += [(means, means), (means, means[:-1]), (means[:-1], means)]
        pairs += [([marks[0]], means), (means, marks[-1:])]
    for lot in (low(scale, []), high(scale, [])):
        pairs += [(means_of(scale, lot, min(2, len(scale) - 1)), found[-1])]
    for means in found[2::6]:
        most = min(4, len(scale) - 1)
        pairs.append((means_of(scale, low(scale, means), most), means_of(scale, high(scale, means), most)))
    return [(one, other) for one, other in pairs if max(len(one), len(other)) < len(scale)]


class AllUnderAll(Case):
    def test_examples(self):
        self.run_examples(EXAMPLES, {**vars(errors), **vars(ratios), **vars(scales), **vars(kinds)})

    def check_against(self, scale, means, others, order):
        told = against(scale, means, others, order)
        self.assertIs(type(told), tuple)
        one, other, curve = told
        for numbers in told:
            self.assert_ratios(numbers, " ".join(texts(numbers)))
        self.assertTrue(is_lot(scale, one) and has(scale, means, one))
        self.assertTrue(is_lot(scale, other) and has(scale, others, other))
        self.assertGreaterEqual(min(slopes(scale, curve, order)), 0)
        self.assertGreater(mean_for(one, curve), mean_for(other, curve))
        self.assertIs(is_against(scale, means, others, order, told), True)

    def test_against_all_corners(self):
        # All lots are mixtures of corners, so it is enough that all corners stand so.
        found = {True: 0, False: 0}
        for scale in helpers.scales()[1::2] + [helpers.scales()[2]]:
            for means, others in kinds_of(scale)[::3]:
                for order in range(1, len(scale)):
                    wanted = all(stands_under(scale, one, other, order)
                                 for one in corners(scale, means) for other in corners(scale, others))
                    found[wanted] += 1
                    self.assertIs(all_under(scale, means, others, order), wanted)
                    if wanted:
                        self.assertIsNone(against(scale, means, others, order))
                    else:
                        self.check_against(scale, means, others, order)
        self.assertGreater(min(found.values()), 40)

    def test_some(self):
        scale = Scale([0, 1, 2])
        self.assertIs(all_under(scale, [], [], 1), False)
        self.assertIs(all_under(scale, [0], [], 1), True)
        self.assertIs(all_under(scale, [], [2], 1), True)
        self.assertIs(all_under(scale, [], (0,), 1), False)
        self.assertIs(all_under(order=1, others=[2, 4], means=[], scale=scale), True)
        self.assertIs(all_under(scale, [1, 1], [1], 2), True)
        self.assertIs(all_under(scale, [1], [1, 1], 2), False)
        self.assertIs(all_under(scale, [1], [1, 2], 2), True)
        self.assertIs(all_under(scale, [half(1)], [half(3)], 1), True)
        self.assertIs(all_under(scale, [half(1)], [1], 1), False)
        self.assertIs(all_under(scale, [0], [2], 2), False)
        self.assertIs(all_under(scale, [1, 2], [1, 2], 1), True)
        self.assertIs(all_under(Scale([0, 1]), [half(1)], [half(1)], 1), True)
        self.assertIs(all_under(Scale([0, 1]), [half(1)], [Ratio(49, 100)], 1), False)
        self.assertIsNone(against(scale, [0], [1], 1))
        self.check_against(scale, [0], [2], 2)
        self.check_against(scale, (2,), [0], 2)
        self.check_against(scale, [], [], 1)
        self.check_against(scale, [], [], 2)

    def test_near_misses(self):
        scale, means, others = Scale([0, 1, 2]), [half(1)], [1]
        one, other, curve = [Ratio(3, 4), 0, Ratio(1, 4)], [0, 1, 0], [0, 0, 1]
        for value in ((one, other, curve), (tuple(one), tuple(other), tuple(curve)), (one, other, [5, 5, half(13)]),
                      ([Ratio(5, 8), Ratio(1, 4), Ratio(1, 8)], other, curve)):
            self.assertIs(is_against(scale, means, others, 1, value), True)
            self.assertIs(is_against(value=value, order=1, others=tuple(others), means=tuple(means), scale=scale), True)
        near = [
            [one, other, curve], (one, other), (one, other, curve, curve), (other, one, curve), (one, curve, other),
            (one, [half(1), 0, half(1)], curve), ([half(1), half(1), 0], other, curve), (one, other, [0, 1, 2]),
            (one, other, [0, 0, 0]), (one, other, [0, -1, 1]), (one, other, [0, Ratio(1, 4), 1]), (one, other, [0, 0, True]),
            (one, other, [0, 0]), (one, other, [0, 0, 1, 1]), (one, other, None), (one, [0, True, 0], curve),
            (None, other, curve), (one, [0, 1], curve), (one, [0, 1, 0, 0], curve), (one, one, curve), (other, other, curve),
            ([half(3), -1, half(1)], other, curve), ([[0]], other, curve), (), ((one, other, curve),), {"one": one},
            ([0, 0, 1], other, curve), ([half(1), 0, half(1)], other, curve), (one, [1, 0, 0], curve),
            (one, other, [1, 0, 2]), (one, [0, 0, 1], curve), ([1, 0, 0], other, [-1, 0, 0]),
        ]
        for value in near:
            self.assertIs(is_against(scale, means, others, 1, value), False, value)
        # The same lots and curve do not stand so in another order, in which the curve bends up, too, but other ones do.
        self.assertIs(is_against(scale, means, others, 2, (one, other, curve)), True)
        self.assertIs(is_against(scale, means, others, 2, (one, other, [1, 0, -1])), True)
        self.assertIs(is_against(scale, means, others, 1, (one, other, [1, 0, -1])), False)
        self.assertIs(is_against(scale, means, others, 2, (one, other, [1, half(1), -1])), False)

    def test_judging_raises_nothing(self):
        strange = strange_values() + wrong_lots()
        one, other, curve = [Ratio(3, 4), 0, Ratio(1, 4)], [0, 1, 0], [0, 0, 1]
        for item in strange:
            for value in (item, (item, other, curve), (one, item, curve), (item, item, item)):
                self.assertIs(is_against(Scale([0, 1, 2]), [half(1)], [1], 1, value), False)
        for item in strange_values() + wrong_curves():
            self.assertIs(is_against(Scale([0, 1, 2]), [half(1)], [1], 1, (one, other, item)), False)


class Rises(Case):
    def test_against_all_corners(self):
        for scale in helpers.scales():
            for means, others in kinds_of(scale)[::9]:
                for curve in helpers.curves(scale)[2:6]:
                    before = [mean_for(lot, curve) for lot in all_corners(scale, means)]
                    behind = [mean_for(lot, curve) for lot in all_corners(scale, others)]
                    for told, wanted in ((least_rise(scale, means, others, curve), min(behind) - max(before)),
                                         (greatest_rise(scale, means, others, curve), max(behind) - min(before))):
                        self.assert_ratio(told, wanted.numerator, wanted.denominator)

    def test_some(self):
        scale = Scale([0, 1, 2])
        self.assert_ratio(least_rise(scale, [2], [1], [0, 0, 1]), -1)
        self.assert_ratio(greatest_rise(scale, (2,), (1,), (0, 0, 1)), -1, 2)
        self.assert_ratio(least_rise(curve=[0, 1, 2], others=[half(3), 3], means=[half(1)], scale=scale), 1)
        self.assert_ratio(greatest_rise(curve=[0, 1, 2], others=[half(3), 3], means=[half(1)], scale=scale), 1)
        self.assert_ratio(least_rise(scale, [], [], [0, 5, 1]), -5)
        self.assert_ratio(greatest_rise(scale, [], [], [0, 5, 1]), 5)
        self.assert_ratio(least_rise(Scale([3]), [], [], [7]), 0)


class Both(Case):
    def test_mixtures_have_these_means(self):
        for scale in helpers.scales():
            for means, others in kinds_of(scale)[::5]:
                for share in (0, 1, half(1), Ratio(2, 7)):
                    told = both(scale, means, others, share)
                    self.assert_ratios(told, " ".join(texts(told)))
                    mixed = mixture(scale, [some_lot(scale, means), some_lot(scale, others)], [Ratio(1) - share, share])
                    self.assertEqual(told, means_of(scale, mixed, min(len(means), len(others))))
                    self.assertIs(has(scale, told, mixed), True)

    def test_some(self):
        scale = Scale([0, 1, 2])
        self.assert_ratios(both(scale, [1, 1], [2], half(1)), "3/2")
        self.assert_ratios(both(scale, [1, 1], [2, 4], Ratio(1, 3)), "4/3 2")
        self.assert_ratios(both(scale, (1, 1), (2, 4), 0), "1 1")
        self.assert_ratios(both(share=1, others=[2, 4], means=[1, 1], scale=scale), "2 4")
        self.assert_ratios(both(scale, [], [2, 4], Ratio(1)), "")
        self.assert_ratios(both(scale, [1], [], Ratio(0)), "")
        self.assert_ratios(both(Scale([1]), [], (), half(1)), "")

    def test_also_means_that_no_lot_has(self):
        scale = Scale([0, 1, 2])
        self.assert_ratios(both(scale, [-7, 1], [half(1), -1], half(1)), "-13/4 0")
        self.assert_ratios(both(scale, [9], [1, 1], Ratio(1, 4)), "7")
        for scale in helpers.scales():
            for means in means_that_no_lot_has(scale):
                self.assertEqual(plains(both(scale, means, means, half(1))), plains(means))

    def test_wrong_shares(self):
        for share in wrong_numbers() + [-1, 2, half(3), half(-1), Ratio(-1, 10 ** 50), Ratio(10 ** 50 + 1, 10 ** 50)]:
            self.assert_bad(BadNumber, share, both, trio(), [1], [2], share)
            self.assert_bad(BadNumber, share, both, share=share, others=(), means=(9,), scale=trio())


class Errors(Case):
    def calls(self):
        """The functions, each with what may stand behind the two lists of means."""
        return [(all_under, [1]), (against, [1]), (is_against, [1, None]), (least_rise, [[0, 1, 3]]),
                (greatest_rise, [[0, 1, 3]]), (both, [half(1)])]

    def test_wrong_means_ahead_of_all_else(self):
        for means in wrong_means(trio()):
            for call, values in self.calls():
                self.assert_bad(BadMeans, means, call, trio(), means, [1], *values)
                self.assert_bad(BadMeans, means, call, trio(), [1], means, *values)
                self.assert_bad(BadMeans, means, call, trio(), means, None, *[None for _ in values])
                self.assert_bad(BadMeans, means, call, trio(), [9], means, *[None for _ in values])
            self.assert_bad(BadMeans, means, all_under, order=0, others=means, means=[], scale=trio())
            self.assert_bad(BadMeans, means, least_rise, curve=0, others=means, means=[9], scale=trio())
            self.assert_bad(BadMeans, means, both, share=2, others=9, means=means, scale=trio())

    def test_both_means_are_limited_by_themselves(self):
        scale = helpers.scales()[-1]
        for call, values in ((all_under, [1]), (against, [1]), (both, [1])):
            given = [0] * 5
            self.assert_bad(BadMeans, given, call, scale, given, [0], *values)
            self.assert_bad(BadMeans, given, call, scale, [0], given, *values)

    def test_wrong_orders_ahead_of_no_lot(self):
        for scale in (Scale([4]), Scale([0, 1]), trio(), helpers.scales()[-1]):
            for means in ([], [10 ** 50])[:len(scale)]:
                for order in wrong_orders(len(scale) - 1) + [len(scale), True]:
                    for call, values in ((all_under, []), (against, []), (is_against, [None])):
                        self.assert_bad(BadOrder, order, call, scale, means, means, order, *values)
                    self.assert_bad(BadOrder, order, against, order=order, others=means, means=[], scale=scale)

    def test_wrong_curves_ahead_of_no_lot(self):
        for means in ([], [1], [9]):
            for curve in wrong_curves():
                for call in (least_rise, greatest_rise):
                    self.assert_bad(BadCurve, curve, call, trio(), means, [9], curve)
                    self.assert_bad(BadCurve, curve, call, curve=curve, others=means, means=[9], scale=trio())

    def test_no_lot(self):
        for scale in helpers.scales()[1:]:
            curve = [0] * len(scale)
            for means in means_that_no_lot_has(scale)[::2]:
                told = bar(scale, means)
                for call, values in ((all_under, [1]), (against, [1]), (is_against, [1, None]), (least_rise, [curve]),
                                     (greatest_rise, [curve])):
                    self.assert_no_lot(told, call, scale, means, [], *values)
                    self.assert_no_lot(told, call, scale, [], tuple(means), *values)
                    self.assert_no_lot(told, call, scale, means, [10 ** 40], *values)
                self.assert_no_lot(bar(scale, [10 ** 40]), least_rise, scale, [10 ** 40], means, curve)


class NothingChanges(Case):
    def calls(self, means, others, value, curve):
        scale = Scale([0, 1, 2])
        return [
            lambda: all_under(scale, means, others, 1), lambda: against(scale, means, others, 1),
            lambda: against(scale, means, means, 1), lambda: against(scale, others, means, 2),
            lambda: is_against(scale, means, others, 1, value), lambda: least_rise(scale, means, others, curve),
            lambda: greatest_rise(scale, means, others, curve), lambda: both(scale, means, others, half(1)),
            lambda: against(scale, [1, 1], [1, 2], 1),
        ]

    def given(self):
        return [[half(1)], [Ratio(1)], ([Ratio(3, 4), 0, Ratio(1, 4)], [0, 1, 0], [0, Ratio(0), 1]), [0, Ratio(0), 1]]

    def test_what_is_passed_is_not_changed(self):
        given = self.given()
        before = helpers.repr_of(given)
        for call in self.calls(*given):
            call()
            self.assertEqual(helpers.repr_of(given), before)

    def test_what_is_returned_is_new(self):
        given = self.given()
        before = helpers.repr_of(given)
        for call in self.calls(*given):
            self.assert_new_lists(call)
            self.assertEqual(helpers.repr_of(given), before)

    def test_the_lists_of_one_answer_are_not_the_same(self):
        one, other, curve = against(Scale([0, 1, 2]), [1], [1], 1)
        self.assertEqual(len({id(one), id(other), id(curve)}), 3)

    def test_a_bar_in_an_error_is_new(self):
        def caught():
            try:
                all_under(trio(), [1], [4], 1)
            except NoLot as error:
                return error.bar
        self.assert_new_lists(caught)

    def test_equal_arguments_tell_equal_things(self):
        tuples = [(Ratio(2, 4),), (1,), ((Ratio(6, 8), 0, Ratio(1, 4)), (Ratio(0), 1, 0), (0, 0, Ratio(1))), (Ratio(0), 0, 1)]
        for one, other in zip(self.calls(*self.given()), self.calls(*tuples)):
            self.assertEqual(helpers.repr_of(one()), helpers.repr_of(other()))

    def test_wrong_arguments_are_not_changed(self):
        for means, others, order in (([True], [1], 1), ([1], [[1]], 1), ([1], [9], 1), ([1], [1], [1])):
            before = helpers.repr_of((means, others, order))
            with self.assertRaises(MeansError):
                against(trio(), means, others, order)
            self.assertEqual(helpers.repr_of((means, others, order)), before)
