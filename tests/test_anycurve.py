"""Any curve: least and greatest means [60] [61], chances [62], values used surely or never [63], the ends [64]."""

from itertools import combinations

from firstmeans import anycurve, errors, ratios, scales
from firstmeans.anycurve import (
    by_ends, chances, greatest, is_greatest, is_least, least, never, surely,
)
from firstmeans.bends import bends_down, bends_up
from firstmeans.curves import cover, step
from firstmeans.errors import BadCurve, BadMeans, BadPlaces, MeansError, NoLot
from firstmeans.extremes import bounds
from firstmeans.known import bar
from firstmeans.ratios import Ratio, is_number
from firstmeans.scales import Scale, is_lot
from tests import helpers
from tests.helpers import (
    Case, half, means_that_lots_have, means_that_no_lot_has, strange_values, texts, trio, wrong_curves, wrong_lists,
    wrong_means, wrong_places,
)
from tests.plain import all_corners, at_marks, by_means, mean_for, plains

EXAMPLES = """
    >>> scale = Scale([0, 1, 2])
    >>> number, lot, polynomial = greatest(scale, [1], [0, 1, 0])
    >>> number.text(), [share.text() for share in lot], is_greatest(scale, [1], [0, 1, 0], (1, [0, 1, 0], [1])), is_least(scale, [1], [0, 1, 0], (0, [Ratio(1, 2), 0, Ratio(1, 2)], [0]))
    ('1', ['0', '1', '0'], True, True)
    >>> [number.text() for number in chances(scale, [1], [0])], surely(scale, [1]), never(scale, [2]), by_ends(scale, [1], [0, 1, 0])
    (['0', '1/2'], [], [0, 1], (True, True))
    >>> chances(scale, [1], [1, 0])
    raises BadPlaces([1, 0])
"""


def quartet():
    return Scale([0, 1, 2, 4])


class LeastAndGreatest(Case):
    def test_examples(self):
        self.run_examples(EXAMPLES, {**vars(errors), **vars(ratios), **vars(scales), **vars(anycurve)})

    def check_told(self, scale, means, curve, told, wanted):
        self.assertIs(type(told), tuple)
        number, lot, polynomial = told
        self.assert_ratio(number, wanted.numerator, wanted.denominator)
        self.assert_ratios(lot, " ".join(texts(lot)))
        self.assert_ratios(polynomial, " ".join(texts(polynomial)))
        self.assertTrue(is_lot(scale, lot))
        for k, known in enumerate(plains(means)):
            self.assertEqual(mean_for(lot, [mark ** (k + 1) for mark in plains(scale.marks())]), known)
        self.assertEqual(mean_for(lot, curve), wanted)
        self.assertTrue(1 <= len(polynomial) <= len(means) + 1)
        self.assertEqual(by_means(means, polynomial), wanted)

    def check(self, scale, means, curve):
        found = [mean_for(lot, curve) for lot in all_corners(scale, means)]
        told = least(scale, means, curve)
        self.check_told(scale, means, curve, told, min(found))
        self.assertTrue(all(low <= high for low, high in zip(at_marks(scale, told[2]), plains(curve))))
        self.assertIs(is_least(scale, means, curve, told), True)
        other = greatest(scale, means, curve)
        self.check_told(scale, means, curve, other, max(found))
        self.assertTrue(all(low >= high for low, high in zip(at_marks(scale, other[2]), plains(curve))))
        self.assertIs(is_greatest(scale, means, curve, other), True)
        if told[0] != other[0]:
            self.assertIs(is_least(scale, means, curve, other), False)
            self.assertIs(is_greatest(scale, means, curve, told), False)

    def test_against_all_corners(self):
        for scale in helpers.scales():
            for means, _ in means_that_lots_have(scale)[::4]:
                for curve in helpers.curves(scale)[2::3]:
                    self.check(scale, means, curve)

    def test_covers_and_steps(self):
        for scale in helpers.scales()[5:]:
            marks = scale.marks()
            for means, _ in means_that_lots_have(scale)[1::7]:
                for curve in (cover(scale, marks[1]), cover(scale, half(1)), step(scale, marks[2]), step(scale, marks[-1])):
                    self.check(scale, means, curve)

    def test_as_bounds_if_the_curve_bends(self):
        seen = 0
        for scale in helpers.scales():
            for means, _ in means_that_lots_have(scale)[::5]:
                order = len(means) + 1
                for curve in helpers.curves(scale)[::2]:
                    if bends_up(scale, curve, order) or bends_down(scale, curve, order):
                        seen += 1
                        told = least(scale, means, curve)[0], greatest(scale, means, curve)[0]
                        self.assertEqual(told, bounds(scale, means, curve))
                        self.assertEqual(by_ends(scale, means, curve), (True, True))
        self.assertGreater(seen, 100)

    def test_some(self):
        number, lot, _ = least(quartet(), [half(3)], [0, 3, 0, 0])
        self.assert_ratio(number, 0)
        self.assertTrue(is_lot(quartet(), lot))
        number, lot, polynomial = greatest(curve=(0, 3, 0, 0), means=(half(3),), scale=quartet())
        self.assert_ratio(number, 5, 2)
        self.assert_ratios(lot, "0 5/6 0 1/6")
        self.assert_ratios(polynomial, "4 -1")
        number, lot, polynomial = least(Scale([5]), [], [half(7)])
        self.assert_ratio(number, 7, 2)
        self.assert_ratios(lot, "1")
        self.assert_ratios(polynomial, "7/2")
        number, lot, polynomial = greatest(Scale([0, 1]), [], [3, 2])
        self.assert_ratio(number, 3)
        self.assert_ratios(lot, "1 0")
        self.assert_ratios(polynomial, "3")


class Judged(Case):
    def test_more_than_one_fits(self):
        scale, means, curve = Scale([0, 1, 2, 3]), [half(3)], [0, 0, 0, 0]
        for lot in ([0, half(1), half(1), 0], (half(1), 0, 0, half(1)), [Ratio(1, 4)] * 4):
            for polynomial in ([0], (0, 0), [Ratio(0)]):
                for number in (0, Ratio(0)):
                    self.assertIs(is_least(scale, means, curve, (number, lot, polynomial)), True)
                    self.assertIs(is_greatest(scale, tuple(means), tuple(curve), (number, lot, polynomial)), True)
        value = (0, [0, half(1), half(1), 0], [0])
        self.assertIs(is_least(value=value, curve=curve, means=means, scale=scale), True)
        self.assertIs(is_greatest(value=value, curve=curve, means=means, scale=scale), True)

    def test_lots_with_the_right_number_but_other_means(self):
        for lot in ([1, 0, 0], [0, 0, 1], [half(1), half(1), 0], [Ratio(1, 3), Ratio(1, 3), Ratio(1, 3)]):
            right = lot == [Ratio(1, 3)] * 3
            self.assertIs(is_least(Scale([0, 1, 2]), [1], [0, 0, 0], (0, lot, [0])), right)
            self.assertIs(is_greatest(Scale([0, 1, 2]), [1], [0, 0, 0], (0, lot, [0])), right)

    def test_near_misses_of_the_least(self):
        scale, means, curve = Scale([0, 1, 2]), [1], [1, 0, 1]
        lot = [0, 1, 0]
        for polynomial in ([0], [0, 0], (1, -1), [-1, Ratio(1)]):
            self.assertIs(is_least(scale, means, curve, (0, lot, polynomial)), True)
        near = [
            [0, lot, [0]], (0, lot), (0, lot, [0], [0]), (0, lot, [0], 0), ((0, lot, [0]),), (), (0,), [(0, lot, [0])],
            (1, lot, [0]), (Ratio(1, 10 ** 40), lot, [0]), (False, lot, [0]), (None, lot, [0]), ("0", lot, [0]),
            ([0], lot, [0]), (lot, 0, [0]), (0, [0], lot), (0, 1, 0), (0, lot, 0), (0, lot, Ratio(0)),
            (0, [half(1), 0, half(1)], [0]), (1, [half(1), 0, half(1)], [0]), (0, [1, 0, 0], [0]), (0, [0, 1], [0]),
            (0, [0, 1, 0, 0], [0]), (0, [False, 1, 0], [0]), (0, [0, True, 0], [0]), (0, [0, 1, None], [0]),
            (0, [half(-1), 2, half(-1)], [0]), (0, [0, 0, 0], [0]), (0, {"0": 1}, [0]), (0, "010", [0]),
            (0, lot, []), (0, lot, [0, 0, 0]), (0, lot, [1]), (0, lot, [-1]), (0, lot, [0, 1]), (0, lot, [-2, 2]),
            (0, lot, [2, -2]), (0, lot, [False]), (0, lot, [None]), (0, lot, "0"), (0, lot, {"0": 0}), (0, lot, [[0]]),
            (-1, lot, [-1]), (1, [half(1), 0, half(1)], [1]), (0, lot, [Ratio(-11, 10), Ratio(11, 10)]),
        ]
        for value in near:
            self.assertIs(is_least(scale, means, curve, value), False, value)

    def test_near_misses_of_the_greatest(self):
        scale, means, curve = Scale([0, 1, 2]), [1], [0, 1, 0]
        lot = (0, 1, 0)
        for polynomial in ([1], [1, 0], (0, 1), [2, -1], [half(1), half(1)]):
            self.assertIs(is_greatest(scale, means, curve, (1, lot, polynomial)), True)
        for value in ([1, lot, [1]], (1, lot), (1, lot, [1], 1), (0, lot, [0]), (True, lot, [1]), (1, lot, [True]),
                      (0, [half(1), 0, half(1)], [0]), (1, [half(1), 0, half(1)], [1]), (1, lot, [0, 1, 0]),
                      (1, lot, [-1, 2]), (1, lot, [3, -2]), (1, lot, [Ratio(21, 10), Ratio(-11, 10)]), (2, lot, [2]),
                      (1, [0, 0, 1], [1]), (1, [0, 1], [1]), (1, lot, [half(2), 0, 0]), (1, [0, Ratio(1), 0], [])):
            self.assertIs(is_greatest(scale, means, curve, value), False, value)

    def test_judging_raises_nothing(self):
        strange = strange_values() + [item for item in wrong_lists(2) if not is_number(item)]
        for value in strange + [(0, [0, 1, 0], item) for item in strange] + [(0, item, [0]) for item in strange] + [
                (item, [0, 1, 0], [0]) for item in strange] + [tuple(strange), (strange, strange, strange)]:
            self.assertIs(is_least(trio(), [1], [0, 0, 0], value), False)
            self.assertIs(is_greatest(trio(), [1], [0, 0, 0], value), False)
        self.assertIs(is_least(trio(), [1], [0, 0, 0], (0, [0, 1, 0], [0])), True)


class Chances(Case):
    def test_against_all_corners(self):
        for scale in helpers.scales():
            size = len(scale)
            for means, _ in means_that_lots_have(scale)[::4]:
                just = all_corners(scale, means)
                for many in {1, 2, size // 2 + 1, size - 1, size} & set(range(1, size + 1)):
                    for places in list(combinations(range(size), many))[::7]:
                        told = chances(scale, means, list(places))
                        self.assertIs(type(told), tuple)
                        self.assert_ratios(list(told), " ".join(texts(told)))
                        found = [sum(lot[place] for place in places) for lot in just]
                        self.assertEqual(plains(told), [min(found), max(found)])

    def test_some(self):
        self.assertEqual(texts(chances(quartet(), [half(3)], [0])), ["0", "5/8"])
        self.assertEqual(texts(chances(quartet(), (half(3),), (2, 3))), ["1/6", "3/4"])
        self.assertEqual(texts(chances(places=[3], means=[], scale=quartet())), ["0", "1"])
        self.assertEqual(texts(chances(quartet(), [half(3)], [0, 1, 2, 3])), ["1", "1"])
        self.assertEqual(texts(chances(Scale([5]), [], [0])), ["1", "1"])


class SurelyAndNever(Case):
    def test_against_all_corners(self):
        found = {"surely": 0, "never": 0, "perhaps": 0}
        for scale in helpers.scales():
            size = range(len(scale))
            for means, _ in means_that_lots_have(scale):
                just = all_corners(scale, means)
                sure = [place for place in size if min(lot[place] for lot in just) > 0]
                none = [place for place in size if max(lot[place] for lot in just) == 0]
                self.assert_places(surely(scale, means), sure)
                self.assert_places(never(scale, means), none)
                found["surely"] += len(sure) > 0
                found["never"] += len(none) > 0
                found["perhaps"] += len(sure) + len(none) < len(scale)
        self.assertGreater(min(found.values()), 30)

    def test_some(self):
        self.assert_places(surely(Scale([5]), []), [0])
        self.assert_places(never(Scale([5]), ()), [])
        self.assert_places(surely(Scale([0, 1]), [half(1)]), [0, 1])
        self.assert_places(surely(Scale([0, 1]), [0]), [0])
        self.assert_places(never(Scale([0, 1]), (0,)), [1])
        self.assert_places(surely(means=[3, 9], scale=trio()), [2])
        self.assert_places(never(means=[3, 9], scale=trio()), [0, 1])
        self.assert_places(surely(trio(), [2]), [2])
        self.assert_places(never(trio(), [2]), [])


class ByEnds(Case):
    def test_against_all_corners(self):
        seen = set()
        for scale in helpers.scales():
            marks = plains(scale.marks())
            for means, _ in means_that_lots_have(scale)[::5]:
                just = all_corners(scale, means)
                nexts = [mean_for(lot, [mark ** (len(means) + 1) for mark in marks]) for lot in just]
                ends = just[nexts.index(min(nexts))], just[nexts.index(max(nexts))]
                for curve in helpers.curves(scale):
                    told = by_ends(scale, means, curve)
                    found = [mean_for(lot, curve) for lot in just]
                    at_ends = [mean_for(lot, curve) for lot in ends]
                    self.assertIs(type(told), tuple)
                    self.assertEqual([type(truth) for truth in told], [bool, bool])
                    self.assertEqual(told, (min(found) in at_ends, max(found) in at_ends))
                    seen.add(told)
        self.assertEqual(len(seen), 4)

    def test_some(self):
        self.assertEqual(by_ends(Scale([0, 1, 2]), [], [0, 1, 0]), (True, False))
        self.assertEqual(by_ends(curve=(0, -1, 0), means=(), scale=Scale([0, 1, 2])), (False, True))
        self.assertEqual(by_ends(Scale([0, 1, 2, 3]), [], [0, 1, -1, 0]), (False, False))
        self.assertEqual(by_ends(Scale([4]), [], [1]), (True, True))


class Errors(Case):
    def with_curves(self):
        return [(least, []), (greatest, []), (by_ends, []), (is_least, [None]), (is_greatest, [(0, [1], [0])])]

    def test_wrong_means_ahead_of_all_else(self):
        for scale in (Scale([4]), Scale([0, 1]), trio(), helpers.scales()[-3], helpers.scales()[-1]):
            for means in wrong_means(scale):
                for call, values in self.with_curves():
                    self.assert_bad(BadMeans, means, call, scale, means, [0] * len(scale), *values)
                    self.assert_bad(BadMeans, means, call, scale, means, None, *values)
                self.assert_bad(BadMeans, means, least, curve=7, means=means, scale=scale)
                self.assert_bad(BadMeans, means, is_least, value=7, curve=7, means=means, scale=scale)
                for places in ([0], [], None):
                    self.assert_bad(BadMeans, means, chances, scale, means, places)
                for call in (surely, never):
                    self.assert_bad(BadMeans, means, call, scale, means)
                    self.assert_bad(BadMeans, means, call, means=means, scale=scale)

    def test_wrong_curves_ahead_of_no_lot(self):
        for means in ([], [1], (1, 2), [4], [1, half(1)]):
            for curve in wrong_curves():
                for call, values in self.with_curves():
                    self.assert_bad(BadCurve, curve, call, trio(), means, curve, *values)
                self.assert_bad(BadCurve, curve, greatest, curve=curve, means=means, scale=trio())
                self.assert_bad(BadCurve, curve, is_greatest, value=None, curve=curve, means=means, scale=trio())

    def test_wrong_places_ahead_of_no_lot(self):
        for means in ([], [1], (1, 2), [4], [1, half(1)]):
            for places in wrong_places(3):
                self.assert_bad(BadPlaces, places, chances, trio(), means, places)
                self.assert_bad(BadPlaces, places, chances, places=places, means=means, scale=trio())

    def test_no_lot(self):
        for scale in helpers.scales():
            for means in means_that_no_lot_has(scale):
                told = bar(scale, means)
                for call, values in self.with_curves():
                    self.assert_no_lot(told, call, scale, means, [0] * len(scale), *values)
                    self.assert_no_lot(told, call, scale, tuple(means), (1,) * len(scale), *values)
                self.assert_no_lot(told, chances, scale, means, [0])
                self.assert_no_lot(told, chances, places=(0,), means=tuple(means), scale=scale)
                for call in (surely, never):
                    self.assert_no_lot(told, call, scale, means)
                    self.assert_no_lot(told, call, means=tuple(means), scale=scale)


class NothingChanges(Case):
    def calls(self, means, curve, places, value):
        scale = quartet()
        return [
            lambda: least(scale, means, curve), lambda: greatest(scale, means, curve),
            lambda: is_least(scale, means, curve, value), lambda: is_greatest(scale, means, curve, value),
            lambda: chances(scale, means, places), lambda: surely(scale, means), lambda: never(scale, means),
            lambda: by_ends(scale, means, curve), lambda: never(scale, [0]), lambda: surely(scale, [4]),
            lambda: least(scale, [], curve), lambda: greatest(scale, [4], curve),
        ]

    def given(self):
        return [[half(3)], [0, Ratio(3), 0, 0], [1, 3], (half(5), [0, Ratio(5, 6), 0, Ratio(1, 6)], [4, Ratio(-1)])]

    def test_what_is_passed_is_not_changed(self):
        given = self.given()
        before = helpers.repr_of(given)
        for call in self.calls(*given):
            call()
            self.assertEqual(helpers.repr_of(given), before)

    def test_what_is_returned_is_new(self):
        given = self.given()
        before = helpers.repr_of(given)
        for call in self.calls(*given):
            self.assert_new_lists(call)
            self.assertEqual(helpers.repr_of(given), before)

    def test_a_bar_in_an_error_is_new(self):
        def caught():
            try:
                least(trio(), [4], [0, 0, 0])
            except NoLot as error:
                return error.bar
        self.assert_new_lists(caught)

    def test_equal_arguments_tell_equal_things(self):
        tuples = [(Ratio(6, 4),), (Ratio(0), 3, Ratio(0), 0), (1, 3), (half(5), (0, Ratio(5, 6), 0, Ratio(2, 12)), (4, -1))]
        for one, other in zip(self.calls(*self.given()), self.calls(*tuples)):
            self.assertEqual(helpers.repr_of(one()), helpers.repr_of(other()))

    def test_wrong_arguments_are_not_changed(self):
        for means, curve in (([1, True], [0, 1, 2]), ([1], [0, 1, None]), ([4], [0, 1, 9]), ([1], [0, 1])):
            before = helpers.repr_of((means, curve))
            for call in (least, greatest, by_ends):
                with self.assertRaises(MeansError):
                    call(trio(), means, curve)
            self.assertEqual(helpers.repr_of((means, curve)), before)
