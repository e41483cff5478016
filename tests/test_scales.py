"""Scales [3] [13], lots, curves and means [14]."""

from fractions import Fraction

from firstmeans import errors, ratios, scales
from firstmeans.errors import BadCount, BadCurve, BadLot, BadNumber, BadText, BadValues, NoValue
from firstmeans.ratios import Ratio
from firstmeans.scales import Scale, is_curve, is_lot, mean, means_of, uses
from tests.helpers import Case, half, odd_values, strange_values, texts, trio, wrong_counts, wrong_curves, wrong_lots

EXAMPLES = """
    >>> scale = Scale([2, 0, Ratio(1, 2)])
    >>> scale.text(), scale.place(2), len(scale), scale.led(-2, 1).text()
    ('0 1/2 2', 2, 3, '-3 0 1')
    >>> lot = [Ratio(1, 2), 0, Ratio(1, 2)]
    >>> is_lot(scale, lot), mean(scale, lot, [0, 5, 3]).text(), [number.text() for number in means_of(scale, lot, 2)], uses(scale, lot)
    (True, '3/2', ['1', '2'], [0, 2])
    >>> scale.place(1)
    raises NoValue(1)
"""


class Scales(Case):
    def test_examples(self):
        self.run_examples(EXAMPLES, {**vars(errors), **vars(ratios), **vars(scales)})

    def test_values_in_ascending_order(self):
        scale = Scale([3, half(-1), 0, -7, Ratio(1, 3)])
        self.assert_ratios(scale.marks(), "-7 -1/2 0 1/3 3")
        self.assertEqual(len(scale), 5)
        self.assertEqual(scale.text(), "-7 -1/2 0 1/3 3")

    def test_from_one_to_eight_values(self):
        self.assert_ratios(Scale([5]).marks(), "5")
        self.assert_ratios(Scale([8, 7, 6, 5, 4, 3, 2, 1]).marks(), "1 2 3 4 5 6 7 8")
        self.assertEqual([len(Scale(list(range(count)))) for count in range(1, 9)], [1, 2, 3, 4, 5, 6, 7, 8])

    def test_tuples_and_names(self):
        self.assert_ratios(Scale((2, 1)).marks(), "1 2")
        self.assert_ratios(Scale(values=(half(1), 0)).marks(), "0 1/2")
        self.assertEqual(Scale.read(text="1 2").place(value=2), 1)
        self.assertEqual(Scale([1, 2]).led(add=1, factor=2).text(), "3 5")

    def test_wrong_values(self):
        near = [[], (), list(range(9)), tuple(range(9)), [1, 1], [1, 2, Ratio(2)], [half(1), Ratio(2, 4)], [1, True],
                [False, 1], [0, False], [1, None], [1, "2"], ["0", "1"], [[0, 1]], [1, [2]], "01", "0 1", 3, Ratio(3),
                {"0": 1}, [1, 2, 3, 4, 5, 6, 7, 8, 8], [1, 2, 3, 4, 5, 6, 7, 7], [Scale([1])], Scale([1, 2])]
        for values in odd_values() + near:
            self.assert_bad(BadValues, values, Scale, values)
            self.assert_bad(BadValues, values, Scale, values=values)

    def test_places(self):
        scale = Scale([half(1), -2, 4])
        self.assertEqual([scale.place(value) for value in (-2, half(1), Ratio(4), 4)], [0, 1, 2, 2])
        self.assertIs(type(scale.place(Ratio(4))), int)

    def test_no_place(self):
        scale = Scale([0, 1, half(3)])
        for value in odd_values() + [2, -1, half(1), "0", "3/2", [0], (1,), [0, 1, half(3)], 10 ** 50, scale.text()]:
            self.assert_bad(NoValue, value, scale.place, value)
            self.assert_bad(NoValue, value, scale.place, value=value)

    def test_equality(self):
        self.assertTrue(Scale([1, 0]) == Scale((0, Ratio(1))))
        self.assertFalse(Scale([1, 0]) != Scale((0, Ratio(1))))
        for other in (Scale([0, 2]), Scale([0]), Scale([0, 1, 2]), Scale([-1, 0])):
            self.assertFalse(Scale([0, 1]) == other)
            self.assertTrue(Scale([0, 1]) != other)
        for other in odd_values() + strange_values() + [[0, 1], (0, 1), "0 1", 0, Ratio(0), Scale([0, 1]).marks()]:
            self.assertIs(Scale([0, 1]) == other, False)
            self.assertIs(Scale([0, 1]) != other, True)
        self.assertFalse(Scale([3]) == 3 or Scale([3]) == Ratio(3) or Ratio(3) == Scale([3]))

    def test_led(self):
        scale = Scale([0, half(1), 3])
        self.assertEqual(scale.led(2, 0).text(), "0 1 6")
        self.assertEqual(scale.led(-1, half(1)).text(), "-5/2 0 1/2")
        self.assertEqual(scale.led(Ratio(2, 3), -1).text(), "-1 -2/3 1")
        self.assertEqual(scale.led(1, 0), scale)
        self.assertIs(type(scale.led(1, 0)), Scale)
        self.assertEqual(scale.text(), "0 1/2 3")

    def test_led_wrongly(self):
        scale = trio()
        for value in odd_values() + [[1], (1,), "2"]:
            self.assert_bad(BadNumber, value, scale.led, value, 1)
            self.assert_bad(BadNumber, value, scale.led, 1, value)
            self.assert_bad(BadNumber, value, scale.led, add=value, factor=Ratio(1, 3))
        for nothing in (0, Ratio(0), Ratio(0, -3)):
            self.assert_bad(BadNumber, nothing, scale.led, nothing, 1)

    def test_led_the_factor_is_checked_first(self):
        for factor in (None, 0, [2]):
            self.assert_bad(BadNumber, factor, trio().led, factor, "add")


class ScaleTexts(Case):
    def test_told_and_read(self):
        for values, text in [
            ([0], "0"), ([half(-3)], "-3/2"), ([2, 0, half(1)], "0 1/2 2"), (list(range(8)), "0 1 2 3 4 5 6 7"),
            ([10 ** 60, -(10 ** 50)], "-1" + "0" * 50 + " 1" + "0" * 60),
        ]:
            self.assertEqual(Scale(values).text(), text)
            self.assertIs(type(Scale.read(text)), Scale)
            self.assertEqual(Scale.read(text), Scale(values))
            self.assertEqual(Scale.read(text).text(), text)
            self.assertEqual(Scale([1]).read(text), Scale(values))

    def test_near_misses(self):
        for text in [
            "", " ", "  ", "0  1", " 0 1", "0 1 ", "0\n1", "0 1\n", "\n0 1", "0\t1", "0,1", "1 0", "0 2 1", "0 0",
            "1/2 1/2", "1/2 1/3", "-1 -2", "0 2/4", "0 +1", "-0 1", "0 1/1", "00 1", "0 01", "0 a", "a", "0 1/0",
            "0 1 2 3 4 5 6 7 8", "[0, 1]", "0 1 2 3 4 5 6 7 7", "0 -", "means", "0 1_0", "0 / 1",
        ]:
            self.assert_raises(BadText, {}, Scale.read, text)
            self.assert_raises(BadText, {}, Scale.read, text=text)

    def test_texts_longer_than_python_itself_writes(self):
        scale = Scale([0, 10 ** 49 + 3])
        for _ in range(100):
            scale = scale.led(10 ** 49 + 3, Ratio(1, 3))
        self.assertGreater(len(scale.text()), 4900)
        self.assertEqual(Scale.read(scale.text()), scale)


class LotsAndCurves(Case):
    def test_lots(self):
        for value in [[1, 0, 0], [0, 0, 1], (0, 1, 0), [half(1), 0, half(1)], [Ratio(1, 3), Ratio(1, 6), half(1)],
                      (Ratio(1), Ratio(0), 0), [Ratio(1, 10 ** 50), 0, Ratio(10 ** 50 - 1, 10 ** 50)]]:
            self.assertIs(is_lot(trio(), value), True)
            self.assertIs(is_lot(scale=trio(), value=value), True)
        self.assertIs(is_lot(Scale([7]), [1]), True)

    def test_no_lots(self):
        for value in wrong_lots() + strange_values():
            self.assertIs(is_lot(trio(), value), False)
        for value in ([True], [Ratio(1, 2)], [2], [], 1, True):
            self.assertIs(is_lot(Scale([7]), value), False)

    def test_curves(self):
        for value in [[1, 2, 3], (0, 0, 0), [-5, half(1), 10 ** 50], (Ratio(1), 1, -1)]:
            self.assertIs(is_curve(trio(), value), True)
            self.assertIs(is_curve(scale=trio(), value=value), True)

    def test_no_curves(self):
        for value in wrong_curves() + strange_values():
            self.assertIs(is_curve(trio(), value), False)

    def test_no_sets_bytes_or_other_lists(self):
        for value in (b"\x01\x00", range(2), {0: 1, 1: 0}, {0, 1}, bytearray(2), iter([1, 0])):
            self.assertIs(is_curve(Scale([0, 1]), value), False)
            self.assertIs(is_lot(Scale([0, 1]), value), False)


class Means(Case):
    def test_mean(self):
        self.assert_ratio(mean(trio(), [0, 1, 0], [5, 7, 9]), 7)
        self.assert_ratio(mean(trio(), (half(1), 0, half(1)), (0, 5, 3)), 3, 2)
        self.assert_ratio(mean(trio(), [Ratio(1, 3), Ratio(1, 6), half(1)], [half(-1), 4, Ratio(2, 3)]), 5, 6)
        self.assert_ratio(mean(Scale([0]), [1], [0]), 0)
        self.assert_ratio(mean(scale=trio(), lot=[1, 0, 0], curve=[-2, 0, 0]), -2)

    def test_means_of(self):
        lot = [half(1), Ratio(1, 6), Ratio(1, 3)]
        self.assert_ratios(means_of(trio(), lot, 3), "7/6 19/6 55/6")
        self.assert_ratios(means_of(trio(), lot, 0), "")
        self.assert_ratios(means_of(scale=trio(), lot=tuple(lot), count=1), "7/6")
        self.assert_ratios(means_of(Scale([-2]), [1], 8), "-2 4 -8 16 -32 64 -128 256")
        self.assert_ratios(means_of(Scale([0]), [1], 2), "0 0")

    def test_means_of_like_fractions(self):
        for values in ([0, 1, 3], [-2, half(-1), 4], [half(1), Ratio(2, 3), 1]):
            marks = [Fraction(mark.top, mark.bottom) for mark in Scale(values).marks()]
            for tops in ([6, 0, 0], [1, 2, 3], [0, 5, 1], [2, 2, 2]):
                lot = [Ratio(top, 6) for top in tops]
                sums = [sum(Fraction(top, 6) * mark ** k for top, mark in zip(tops, marks)) for k in range(1, 9)]
                for count in range(9):
                    told = means_of(Scale(values), lot, count)
                    self.assert_ratios(told, " ".join(str(number) for number in sums[:count]))

    def test_uses(self):
        self.assert_places(uses(trio(), [0, 1, 0]), [1])
        self.assert_places(uses(trio(), (half(1), Ratio(0), half(1))), [0, 2])
        self.assert_places(uses(scale=trio(), lot=[Ratio(1, 3)] * 3), [0, 1, 2])
        self.assert_places(uses(Scale([4]), [Ratio(1)]), [0])

    def test_wrong_lots(self):
        for lot in wrong_lots():
            self.assert_bad(BadLot, lot, mean, trio(), lot, [1, 2, 3])
            self.assert_bad(BadLot, lot, means_of, trio(), lot, 2)
            self.assert_bad(BadLot, lot, uses, trio(), lot)
            self.assert_bad(BadLot, lot, uses, scale=trio(), lot=lot)

    def test_wrong_curves(self):
        for curve in wrong_curves():
            self.assert_bad(BadCurve, curve, mean, trio(), [1, 0, 0], curve)
            self.assert_bad(BadCurve, curve, mean, curve=curve, lot=(0, 0, 1), scale=trio())

    def test_wrong_counts(self):
        for count in wrong_counts(8):
            self.assert_bad(BadCount, count, means_of, trio(), [1, 0, 0], count)
            self.assert_bad(BadCount, count, means_of, count=count, lot=(0, 0, 1), scale=trio())

    def test_the_lot_is_checked_first(self):
        for lot in wrong_lots():
            self.assert_bad(BadLot, lot, mean, trio(), lot, None)
            self.assert_bad(BadLot, lot, means_of, trio(), lot, -1)


class NothingChanges(Case):
    def test_what_is_passed_is_not_changed(self):
        values, lot, curve = [3, Ratio(0), 1], [half(1), 0, half(1)], [2, Ratio(-1), 0]
        before = [(list(items), [type(item) for item in items]) for items in (values, lot, curve)]
        scale = Scale(values)
        is_lot(scale, lot), is_curve(scale, curve), mean(scale, lot, curve), means_of(scale, lot, 4), uses(scale, lot)
        scale.led(2, 1), scale.place(3)
        after = [(items, [type(item) for item in items]) for items in (values, lot, curve)]
        self.assertEqual(before, after)

    def test_wrong_arguments_are_not_changed(self):
        for values in ([1, 1], [3, 2, True], list(range(9))):
            before = list(values)
            with self.assertRaises(BadValues):
                Scale(values)
            self.assertEqual(values, before)

    def test_what_was_passed_is_not_kept(self):
        values = [2, 1, 0]
        scale = Scale(values)
        values[0] = 9
        values.append(7)
        self.assertEqual(scale.text(), "0 1 2")
        ordered = [0, Ratio(1), Ratio(2)]
        scale = Scale(ordered)
        ordered.clear()
        self.assertEqual(scale.text(), "0 1 2")

    def test_what_is_returned_is_new(self):
        scale, lot = trio(), [half(1), 0, half(1)]
        marks = scale.marks()
        marks.append(9)
        marks[0] = None
        self.assert_ratios(scale.marks(), "0 1 3")
        self.assertEqual((len(scale), scale.place(0)), (3, 0))
        for call in (scale.marks, lambda: means_of(scale, lot, 3), lambda: uses(scale, lot)):
            first = call()
            told = list(first)
            first.clear()
            self.assertEqual(call(), told)
            self.assertIsNot(call(), call())

    def test_errors_change_nothing(self):
        scale = trio()
        for call, values in [(scale.place, [9]), (scale.led, [0, 1]), (scale.led, [1, None]), (Scale.read, ["1 0"])]:
            with self.assertRaises(errors.MeansError):
                call(*values)
            self.assertEqual(scale.text(), "0 1 3")

    def test_equal_arguments_tell_equal_things(self):
        for _ in range(2):
            self.assertEqual(texts(means_of(trio(), [half(1), 0, half(1)], 2)), ["3/2", "9/2"])
            self.assertEqual(texts(means_of(Scale((3, 1, 0)), (half(1), Ratio(0), half(1)), 2)), ["3/2", "9/2"])
