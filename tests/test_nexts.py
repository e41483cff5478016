"""One mean more: its range [70], the broken lines [71], at one next mean [72], which next means [73]."""

from fractions import Fraction

from firstmeans import errors, nexts, ratios, scales
from firstmeans.anycurve import greatest, least
from firstmeans.curves import cover, power
from firstmeans.errors import BadCurve, BadMeans, BadNumber, MeansError, NoLot, NotNext
from firstmeans.extremes import bounds
from firstmeans.known import bar
from firstmeans.nexts import at_next, greatest_line, least_line, next_for, next_range
from firstmeans.ratios import Ratio
from firstmeans.scales import Scale, means_of
from tests import helpers
from tests.helpers import (
    Case, half, means_that_lots_have, means_that_no_lot_has, texts, trio, wrong_curves, wrong_means, wrong_numbers,
)
from tests.plain import all_corners, mean_for, plain, plains

EXAMPLES = """
    >>> scale = Scale([0, 1, 2, 3])
    >>> [number.text() for number in next_range(scale, [1])], [(x.text(), y.text()) for x, y in least_line(scale, [1], [0, 0, 0, 1])]
    (['1', '3'], [('1', '0'), ('2', '0'), ('3', '1/3')])
    >>> [number.text() for number in at_next(scale, [1], [0, 0, 0, 1], 2)], [number.text() for number in next_for(scale, [1], [0, 0, 0, 1], Ratio(1, 6))]
    (['0', '1/6'], ['1', '5/2'])
    >>> at_next(scale, [1], [0, 0, 0, 1], 4)
    raises NotNext(4)
"""


def quartet():
    return Scale([0, 1, 2, 3])


def points_of(scale, means, curve):
    """For each corner the next mean and the mean of the curve."""
    raised = [mark ** (len(means) + 1) for mark in plains(scale.marks())]
    return [(mean_for(lot, raised), mean_for(lot, curve)) for lot in all_corners(scale, means)]


def span_at(points, number):
    """The least and the greatest height at a next mean, over all pairs of points to the left and the right of it."""
    found = [height for x, height in points if x == number]
    for x, height in points:
        for other_x, other in points:
            if x < number < other_x:
                found.append(height + (other - height) * (number - x) / (other_x - x))
    return min(found), max(found)


def ratio(number):
    return Ratio(number.numerator, number.denominator)


class TheRange(Case):
    def test_examples(self):
        self.run_examples(EXAMPLES, {**vars(errors), **vars(ratios), **vars(scales), **vars(nexts)})

    def test_against_all_corners(self):
        counts = set()
        for scale in helpers.scales():
            marks = plains(scale.marks())
            for means, _ in means_that_lots_have(scale):
                told = next_range(scale, means)
                found = [mean_for(lot, [mark ** (len(means) + 1) for mark in marks]) for lot in all_corners(scale, means)]
                self.assertIs(type(told), tuple)
                self.assert_ratios(list(told), " ".join(texts(told)))
                self.assertEqual(plains(told), [min(found), max(found)])
                counts.add((len(means), len(scale) - len(means)))
        self.assertGreaterEqual(counts, {(0, 8), (4, 4), (4, 1), (0, 1), (1, 1), (2, 1), (3, 1)})

    def test_some(self):
        self.assertEqual(texts(next_range(quartet(), [])), ["0", "3"])
        self.assertEqual(texts(next_range(means=(1,), scale=quartet())), ["1", "3"])
        self.assertEqual(texts(next_range(quartet(), [1, 2])), ["4", "5"])
        self.assertEqual(texts(next_range(quartet(), [1, 2, 4])), ["8", "8"])
        self.assertEqual(texts(next_range(quartet(), [0])), ["0", "0"])
        self.assertEqual(texts(next_range(Scale([half(-3)]), [])), ["-3/2", "-3/2"])
        self.assertEqual(texts(next_range(Scale([-2, -1]), [half(-3)])), ["5/2", "5/2"])

    def test_as_bounds_of_the_next_power(self):
        for scale in helpers.scales():
            for means, _ in means_that_lots_have(scale)[::4]:
                self.assertEqual(next_range(scale, means), bounds(scale, means, power(scale, len(means) + 1)))


class Lines(Case):
    def check_line(self, line, points, lower):
        self.assertIs(type(line), list)
        for point in line:
            self.assertIs(type(point), tuple)
            self.assert_ratios(list(point), " ".join(texts(point)))
        line = [tuple(plains(point)) for point in line]
        across = [x for x, _ in points]
        self.assertEqual((line[0][0], line[-1][0]), (min(across), max(across)))
        if min(across) == max(across):
            self.assertEqual(len(line), 1)
        steep = [(after[1] - before[1]) / (after[0] - before[0]) for before, after in zip(line, line[1:])]
        for before, after in zip(line, line[1:]):
            self.assertLess(before[0], after[0])
        for before, after in zip(steep, steep[1:]):
            self.assertTrue(before < after if lower else before > after)
        for x, height in line:
            self.assertEqual(span_at(points, x)[0 if lower else 1], height)
        for before, after in zip(line, line[1:]):
            middle = (before[0] * 2 + after[0]) / 3
            wanted = before[1] + (after[1] - before[1]) / 3
            self.assertEqual(span_at(points, middle)[0 if lower else 1], wanted)

    def test_against_all_corners(self):
        lengths = set()
        for scale in helpers.scales():
            for means, _ in means_that_lots_have(scale)[::5]:
                for curve in helpers.curves(scale)[1::3]:
                    points = points_of(scale, means, curve)
                    line = least_line(scale, means, curve)
                    self.check_line(line, points, True)
                    self.check_line(greatest_line(scale, means, curve), points, False)
                    lengths.add(len(line))
        self.assertGreaterEqual(lengths, {1, 2, 3, 4})

    def test_some(self):
        def told(line):
            return [" ".join(texts(point)) for point in line]
        scale = quartet()
        self.assertEqual(told(least_line(scale, [1], [0, 0, 0, 1])), ["1 0", "2 0", "3 1/3"])
        self.assertEqual(told(greatest_line(scale, [1], [0, 0, 0, 1])), ["1 0", "3 1/3"])
        self.assertEqual(told(least_line(curve=(5, 3, 3, 5), means=(), scale=scale)), ["0 5", "1 3", "2 3", "3 5"])
        self.assertEqual(told(greatest_line(curve=(5, 3, 3, 5), means=(), scale=scale)), ["0 5", "3 5"])
        self.assertEqual(told(least_line(scale, [], [0, 1, 2, 3])), ["0 0", "3 3"])
        self.assertEqual(told(greatest_line(scale, [], [0, 1, 2, 3])), ["0 0", "3 3"])
        self.assertEqual(told(least_line(scale, [], [0, 3, 1, 2])), ["0 0", "2 1", "3 2"])
        self.assertEqual(told(greatest_line(scale, [], [0, 3, 1, 2])), ["0 0", "1 3", "3 2"])
        self.assertEqual(told(least_line(scale, [0], [half(1), 2, 3, 4])), ["0 1/2"])
        self.assertEqual(told(greatest_line(scale, [1, 2, 4], [4, 0, 0, 2])), ["8 2"])
        self.assertEqual(told(least_line(Scale([5]), [], [half(7)])), ["5 7/2"])
        self.assertEqual(told(greatest_line(Scale([5]), (), (half(7),))), ["5 7/2"])

    def test_a_direction_that_changes_at_each_value(self):
        scale = Scale([-2, -1, 0, 1, 2, 3, 4, 5])
        curve = power(scale, 2)
        line = least_line(scale, [], curve)
        self.assertEqual(line, list(zip(scale.marks(), curve)))
        self.assertEqual(greatest_line(scale, [], curve), [line[0], line[-1]])
        curve = [number * -1 for number in curve]
        line = greatest_line(scale, [], curve)
        self.assertEqual(line, list(zip(scale.marks(), curve)))
        self.assertEqual(least_line(scale, [], curve), [line[0], line[-1]])

    def test_no_points_where_the_direction_stays(self):
        scale = Scale([0, 1, 2, 3, 4, 5, 6, 7])
        self.assertEqual(len(least_line(scale, [], cover(scale, 3))), 3)
        self.assertEqual(len(least_line(scale, [], cover(scale, half(7)))), 4)
        self.assertEqual(len(least_line(scale, [3], power(scale, 2))), 2)
        self.assertEqual(len(greatest_line(scale, [3], power(scale, 2))), 2)


class AtNext(Case):
    def test_against_all_corners(self):
        for scale in helpers.scales():
            for means, _ in means_that_lots_have(scale)[::7]:
                start, end = plains(next_range(scale, means))
                for curve in helpers.curves(scale)[3::5]:
                    points = points_of(scale, means, curve)
                    for part in (Fraction(0), Fraction(1, 5), Fraction(1, 2), Fraction(2, 3), Fraction(1)):
                        number = start + (end - start) * part
                        told = at_next(scale, means, curve, ratio(number))
                        self.assertIs(type(told), tuple)
                        self.assert_ratios(list(told), " ".join(texts(told)))
                        self.assertEqual(tuple(plains(told)), span_at(points, number))

    def test_as_least_and_greatest_with_one_mean_more(self):
        for scale in helpers.scales()[3:]:
            for means, lot in means_that_lots_have(scale, 3)[::5]:
                if len(means) + 1 < len(scale):
                    more = means_of(scale, lot, len(means) + 1)
                    for curve in helpers.curves(scale)[3:6]:
                        wanted = least(scale, more, curve)[0], greatest(scale, more, curve)[0]
                        self.assertEqual(at_next(scale, means, curve, more[-1]), wanted)

    def test_some(self):
        scale, curve = quartet(), [0, 0, 0, 1]
        self.assertEqual(texts(at_next(scale, [1], curve, 1)), ["0", "0"])
        self.assertEqual(texts(at_next(scale, [1], curve, 3)), ["1/3", "1/3"])
        self.assertEqual(texts(at_next(scale, (1,), tuple(curve), half(5))), ["1/6", "1/4"])
        self.assertEqual(texts(at_next(number=Ratio(5, 2), curve=curve, means=[1], scale=scale)), ["1/6", "1/4"])
        self.assertEqual(texts(at_next(scale, [0], [7, 8, 9, 9], 0)), ["7", "7"])
        self.assertEqual(texts(at_next(Scale([5]), [], [2], 5)), ["2", "2"])

    def test_not_next(self):
        tiny = Ratio(1, 10 ** 50)
        for scale in helpers.scales():
            for means, _ in means_that_lots_have(scale)[::6]:
                start, end = next_range(scale, means)
                curve = [0] * len(scale)
                self.assertEqual(texts(at_next(scale, means, curve, start)), ["0", "0"])
                self.assertEqual(texts(at_next(scale, means, curve, end)), ["0", "0"])
                for number in (start - tiny, end + tiny, start - 1, end + 10 ** 49, -(10 ** 50), 10 ** 50):
                    self.assert_bad(NotNext, number, at_next, scale, means, curve, number)
                    self.assert_bad(NotNext, number, at_next, number=number, curve=curve, means=means, scale=scale)


class NextFor(Case):
    def check(self, scale, means, curve, bound, told):
        """Just from the one to the other number the least mean of the curve is at most the bound."""
        points = points_of(scale, means, curve)
        across = [x for x, _ in points]
        limit = plain(bound)
        if told is None:
            self.assertGreater(min(height for _, height in points), limit)
            return
        self.assertIs(type(told), tuple)
        self.assert_ratios(list(told), " ".join(texts(told)))
        first, last = plains(told)
        for number in (first, last, (first + last) / 2):
            self.assertLessEqual(span_at(points, number)[0], limit)
        tiny = Fraction(1, 10 ** 30)
        self.assertTrue(first == min(across) or span_at(points, first - tiny)[0] > limit)
        self.assertTrue(last == max(across) or span_at(points, last + tiny)[0] > limit)

    def test_against_all_corners(self):
        nones, pairs = 0, 0
        for scale in helpers.scales():
            for means, _ in means_that_lots_have(scale)[::6]:
                for curve in helpers.curves(scale)[2::4]:
                    heights = [height for _, height in points_of(scale, means, curve)]
                    low, high = ratio(min(heights)), ratio(max(heights))
                    for bound in (low, high, (low + high).over(2), low + Ratio(1, 10 ** 9), high + 1, low - 1,
                                  low - Ratio(1, 10 ** 50)):
                        told = next_for(scale, means, curve, bound)
                        self.check(scale, means, curve, bound, told)
                        nones += told is None
                        pairs += told is not None
        self.assertGreater(min(nones, pairs), 100)

    def test_some(self):
        scale = quartet()
        self.assertEqual(texts(next_for(scale, [], [5, 3, 3, 5], 3)), ["1", "2"])
        self.assertEqual(texts(next_for(scale, [], [5, 3, 3, 5], 4)), ["1/2", "5/2"])
        self.assertEqual(texts(next_for(scale, (), (5, 3, 3, 5), 5)), ["0", "3"])
        self.assertEqual(texts(next_for(bound=100, curve=[5, 3, 3, 5], means=[], scale=scale)), ["0", "3"])
        self.assertIsNone(next_for(scale, [], [5, 3, 3, 5], Ratio(299, 100)))
        self.assertEqual(texts(next_for(scale, [], [5, 3, 2, 5], 2)), ["2", "2"])
        self.assertEqual(texts(next_for(scale, [1], [0, 0, 0, 1], 0)), ["1", "2"])
        self.assertIsNone(next_for(scale, [1], [0, 0, 0, 1], half(-1)))
        self.assertEqual(texts(next_for(scale, [0], [1, 0, 0, 0], 1)), ["0", "0"])
        self.assertIsNone(next_for(scale, [0], [1, 0, 0, 0], half(1)))
        self.assertEqual(texts(next_for(Scale([5]), [], [2], 2)), ["5", "5"])
        self.assertIsNone(next_for(Scale([5]), [], [2], 1))


class Errors(Case):
    def with_curves(self):
        return [(least_line, []), (greatest_line, []), (at_next, [0]), (next_for, [0])]

    def test_wrong_means_ahead_of_all_else(self):
        for scale in (Scale([4]), Scale([0, 1]), trio(), helpers.scales()[-3], helpers.scales()[-1]):
            for means in wrong_means(scale):
                self.assert_bad(BadMeans, means, next_range, scale, means)
                self.assert_bad(BadMeans, means, next_range, means=means, scale=scale)
                for call, values in self.with_curves():
                    self.assert_bad(BadMeans, means, call, scale, means, [0] * len(scale), *values)
                    self.assert_bad(BadMeans, means, call, scale, means, None, *values)
                self.assert_bad(BadMeans, means, at_next, number=None, curve=None, means=means, scale=scale)
                self.assert_bad(BadMeans, means, next_for, bound=None, curve=None, means=means, scale=scale)

    def test_wrong_curves_ahead_of_numbers_and_no_lot(self):
        for means in ([], [1], (1, 2), [4], [1, half(1)]):
            for curve in wrong_curves():
                for call, values in self.with_curves():
                    self.assert_bad(BadCurve, curve, call, trio(), means, curve, *values)
                self.assert_bad(BadCurve, curve, at_next, number=None, curve=curve, means=means, scale=trio())
                self.assert_bad(BadCurve, curve, next_for, bound=[], curve=curve, means=means, scale=trio())

    def test_wrong_numbers_ahead_of_no_lot(self):
        for means in ([], [1], (1, 2), [4], [1, half(1)]):
            for number in wrong_numbers():
                self.assert_bad(BadNumber, number, at_next, trio(), means, [0, 0, 1], number)
                self.assert_bad(BadNumber, number, next_for, trio(), means, [0, 0, 1], number)
                self.assert_bad(BadNumber, number, at_next, number=number, curve=(0, 0, 1), means=means, scale=trio())
                self.assert_bad(BadNumber, number, next_for, bound=number, curve=(0, 0, 1), means=means, scale=trio())

    def test_no_lot_ahead_of_not_next(self):
        for scale in helpers.scales():
            for means in means_that_no_lot_has(scale):
                told = bar(scale, means)
                self.assert_no_lot(told, next_range, scale, means)
                self.assert_no_lot(told, next_range, means=tuple(means), scale=scale)
                for call, values in self.with_curves():
                    self.assert_no_lot(told, call, scale, means, [0] * len(scale), *values)
                self.assert_no_lot(told, at_next, scale, tuple(means), (1,) * len(scale), 10 ** 50)


class NothingChanges(Case):
    def calls(self, means, curve, number):
        scale = quartet()
        return [
            lambda: next_range(scale, means), lambda: least_line(scale, means, curve),
            lambda: greatest_line(scale, means, curve), lambda: at_next(scale, means, curve, number),
            lambda: next_for(scale, means, curve, number), lambda: least_line(scale, [], curve),
            lambda: greatest_line(scale, [0], curve), lambda: next_for(scale, means, curve, -1),
        ]

    def test_what_is_passed_is_not_changed(self):
        given = [[Ratio(1)], [0, half(1), 0, 1], 2]
        before = helpers.repr_of(given)
        for call in self.calls(*given):
            call()
            self.assertEqual(helpers.repr_of(given), before)

    def test_what_is_returned_is_new(self):
        given = [[Ratio(1)], [Ratio(0), half(1), Ratio(0), Ratio(1)], Ratio(2)]
        before = helpers.repr_of(given)
        for call in self.calls(*given):
            self.assert_new_lists(call)
            self.assertEqual(helpers.repr_of(given), before)

    def test_a_bar_in_an_error_is_new(self):
        def caught():
            try:
                next_range(trio(), [4])
            except NoLot as error:
                return error.bar
        self.assert_new_lists(caught)

    def test_equal_arguments_tell_equal_things(self):
        for one, other in zip(self.calls([1], [0, half(1), 0, 1], 2),
                              self.calls((Ratio(3, 3),), (Ratio(0), Ratio(2, 4), 0, Ratio(1)), Ratio(2))):
            self.assertEqual(helpers.repr_of(one()), helpers.repr_of(other()))

    def test_wrong_arguments_are_not_changed(self):
        for means, curve, number in (([True], [0] * 4, 1), ([1], [[0]] * 4, 1), ([1], [0] * 4, [1]), ([1], [0] * 4, 9)):
            before = helpers.repr_of((means, curve, number))
            with self.assertRaises(MeansError):
                at_next(quartet(), means, curve, number)
            self.assertEqual(helpers.repr_of((means, curve, number)), before)
