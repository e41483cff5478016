"""Curves by words, and sums of curves [15]."""

from firstmeans import curves, errors, ratios, scales
from firstmeans.curves import cap, cover, power, step, summed
from firstmeans.errors import BadCount, BadCurve, BadCurves, BadNumber, BadWeights
from firstmeans.ratios import Ratio
from firstmeans.scales import Scale, is_curve
from tests import helpers
from tests.helpers import Case, half, odd_values, trio, wrong_counts, wrong_lists
from tests.plain import plain, plains

EXAMPLES = """
    >>> scale = Scale([0, 1, 3])
    >>> [[number.text() for number in curve] for curve in [power(scale, 2), cover(scale, 1), cap(scale, 2), step(scale, 1)]]
    [['0', '1', '9'], ['0', '0', '2'], ['0', '1', '2'], ['0', '1', '1']]
    >>> [number.text() for number in summed([[1, 2, 3], [0, 1, 0]], [2, -1])]
    ['2', '3', '6']
    >>> cover(scale, None)
    raises BadNumber(None)
"""

THRESHOLDS = [0, -1, 1, 3, 4, Ratio(3), half(1), half(-1), half(5), -(10 ** 50), 10 ** 50, Ratio(1, 10 ** 50)]


def wide():
    return Scale([-5, half(-1), 0, Ratio(1, 3), 2])


class ByWords(Case):
    def test_examples(self):
        self.run_examples(EXAMPLES, {**vars(errors), **vars(ratios), **vars(scales), **vars(curves)})

    def test_powers(self):
        self.assert_ratios(power(trio(), 0), "1 1 1")
        self.assert_ratios(power(trio(), 1), "0 1 3")
        self.assert_ratios(power(trio(), 8), "0 1 6561")
        self.assert_ratios(power(wide(), 3), "-125 -1/8 0 1/27 8")
        self.assert_ratios(power(exponent=2, scale=wide()), "25 1/4 0 1/9 4")
        self.assert_ratios(power(Scale([0]), 0), "1")
        self.assert_ratios(power(Scale([0]), 8), "0")

    def test_powers_like_fractions(self):
        for scale in helpers.scales():
            for exponent in range(9):
                told = power(scale, exponent)
                self.assertTrue(is_curve(scale, told))
                self.assertEqual(plains(told), [mark ** exponent for mark in plains(scale.marks())])

    def test_wrong_exponents(self):
        for exponent in wrong_counts(8) + [9, 10, -8, [0], (8,)]:
            self.assert_bad(BadCount, exponent, power, trio(), exponent)
            self.assert_bad(BadCount, exponent, power, exponent=exponent, scale=trio())

    def test_covers(self):
        self.assert_ratios(cover(trio(), 0), "0 1 3")
        self.assert_ratios(cover(trio(), half(1)), "0 1/2 5/2")
        self.assert_ratios(cover(trio(), -1), "1 2 4")
        self.assert_ratios(cover(trio(), 3), "0 0 0")
        self.assert_ratios(cover(trio(), 4), "0 0 0")
        self.assert_ratios(cover(threshold=half(-1), scale=wide()), "0 0 1/2 5/6 5/2")

    def test_caps(self):
        self.assert_ratios(cap(trio(), 0), "0 0 0")
        self.assert_ratios(cap(trio(), half(1)), "0 1/2 1/2")
        self.assert_ratios(cap(trio(), -1), "-1 -1 -1")
        self.assert_ratios(cap(trio(), 3), "0 1 3")
        self.assert_ratios(cap(trio(), 4), "0 1 3")
        self.assert_ratios(cap(limit=half(-1), scale=wide()), "-5 -1/2 -1/2 -1/2 -1/2")

    def test_steps(self):
        self.assert_ratios(step(trio(), 0), "1 1 1")
        self.assert_ratios(step(trio(), half(1)), "0 1 1")
        self.assert_ratios(step(trio(), -1), "1 1 1")
        self.assert_ratios(step(trio(), 3), "0 0 1")
        self.assert_ratios(step(trio(), 4), "0 0 0")
        self.assert_ratios(step(threshold=half(-1), scale=wide()), "0 1 1 1 1")

    def test_like_fractions(self):
        for scale in helpers.scales():
            marks = plains(scale.marks())
            for limit in THRESHOLDS + scale.marks():
                known = plain(limit)
                self.assertEqual(plains(cover(scale, limit)), [max(mark - known, 0) for mark in marks])
                self.assertEqual(plains(cap(scale, limit)), [min(mark, known) for mark in marks])
                self.assertEqual(plains(step(scale, limit)), [int(mark >= known) for mark in marks])
                for curve in (cover(scale, limit), cap(scale, limit), step(scale, limit)):
                    self.assert_ratios(curve, " ".join(helpers.texts(curve)))

    def test_no_numbers(self):
        for value in odd_values() + [[1], (1,), "2", [half(1)], Scale([1])]:
            self.assert_bad(BadNumber, value, cover, trio(), value)
            self.assert_bad(BadNumber, value, cover, threshold=value, scale=trio())
            self.assert_bad(BadNumber, value, cap, trio(), value)
            self.assert_bad(BadNumber, value, cap, limit=value, scale=trio())
            self.assert_bad(BadNumber, value, step, trio(), value)
            self.assert_bad(BadNumber, value, step, threshold=value, scale=trio())


class Summed(Case):
    def test_sums(self):
        self.assert_ratios(summed([[1, 2, 3]], [1]), "1 2 3")
        self.assert_ratios(summed(((1, 2, 3),), (half(-1),)), "-1/2 -1 -3/2")
        self.assert_ratios(summed([[1], [2], [3]], [1, 1, half(1)]), "9/2")
        self.assert_ratios(summed([[1, half(1)], (0, Ratio(1, 3))], (Ratio(0), 6)), "0 2")
        self.assert_ratios(summed(weights=[0], curves=[[5, 7]]), "0 0")

    def test_more_numbers_than_a_scale_has_values(self):
        self.assert_ratios(summed([list(range(12)), [1] * 12], [2, 1]), "1 3 5 7 9 11 13 15 17 19 21 23")
        self.assert_ratios(summed([[1, 2]] * 20, [1] * 20), "20 40")

    def test_no_curves(self):
        for value in [[], (), None, True, 1, Ratio(1, 2), "", "12", {}, {"a": [1, 2]}, {"0": 1}]:
            self.assert_bad(BadCurves, value, summed, value, [1])
            self.assert_bad(BadCurves, value, summed, weights=None, curves=value)

    def test_a_wrong_curve(self):
        for value in wrong_lists(2, 2):
            for given in ([[1, 2], value], ([1, 2], value), [(3, half(1)), [0, 0], value, [1]], [[1, 2], value, None]):
                self.assert_bad(BadCurve, value, summed, given, [1] * len(given))
                self.assert_bad(BadCurve, value, summed, curves=given, weights="none")

    def test_a_wrong_first_curve(self):
        for value in odd_values() + [7, Ratio(1, 2), [], (), "12"]:
            self.assert_bad(BadCurve, value, summed, [value], [1])
            self.assert_bad(BadCurve, value, summed, [value, [1, 2]], [1, 2])
            self.assert_bad(BadCurve, value, summed, (value, [], None), None)

    def test_the_length_is_that_of_the_first(self):
        for given in ([[1], [1, 2], [1]], [[1, 2, 3], (1, 2), [1, 2, 3]], [(1, 2), [], [1]], [[1, 2], [1, 2, 3]]):
            self.assert_bad(BadCurve, given[1], summed, given, [1] * len(given))

    def test_wrong_weights(self):
        for value in wrong_lists(2, 2) + [[], (), [1], [1, 2, 3]]:
            self.assert_bad(BadWeights, value, summed, [[1, 2, 3], [4, 5, 6]], value)
            self.assert_bad(BadWeights, value, summed, weights=value, curves=([1, 2, 3], (4, 5, 6)))


class NothingChanges(Case):
    def test_what_is_passed_is_not_changed(self):
        given, weights = [[1, Ratio(2)], (0, half(1)), [Ratio(3), 4]], [2, Ratio(0), -1]
        before = helpers.repr_of(given), helpers.repr_of(weights)
        summed(given, weights)
        self.assertEqual((helpers.repr_of(given), helpers.repr_of(weights)), before)
        for wrong in ([[1, 2], [True, 2]], [[1, 2], [1]]):
            told = helpers.repr_of(wrong)
            with self.assertRaises(BadCurve):
                summed(wrong, weights)
            self.assertEqual(helpers.repr_of(wrong), told)

    def test_what_is_returned_is_new(self):
        scale, one = trio(), [Ratio(1), Ratio(2), Ratio(3)]
        self.assert_new_lists(lambda: summed([one], [1]))
        self.assert_ratios(one, "1 2 3")
        for call in (lambda: power(scale, 1), lambda: cover(scale, 0), lambda: cap(scale, 9), lambda: step(scale, 2)):
            self.assert_new_lists(call)
        self.assert_ratios(scale.marks(), "0 1 3")
