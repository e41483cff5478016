"""Ratios [2] [12]."""

import operator
from fractions import Fraction

from firstmeans import errors, ratios
from firstmeans.errors import BadNumber, BadText, ByZero
from firstmeans.ratios import Ratio, as_ratio, read_ratio, total
from tests.helpers import Case, half, odd_values, strange_values

EXAMPLES = """
    >>> half = Ratio(-3, -6)
    >>> half.top, half.bottom, (half - 2).text(), half.over(Ratio(3, 4)).text(), half <= Ratio(1, 2), total([half, 1]).text()
    (1, 2, '-3/2', '2/3', True, '3/2')
    >>> as_ratio("1/2")
    raises BadNumber('1/2')
"""

PAIRS = [(top, bottom) for top in range(-6, 7) for bottom in (1, 2, 3, 4, 6)]
PAIRS += [(10 ** 49 + 7, 3), (-(10 ** 50) + 1, 10 ** 49 + 9), (2 ** 160, 6 ** 50)]


def operands():
    """Pairs of a number of the package and the Fraction it stands for."""
    found = [(Ratio(top, bottom), Fraction(top, bottom)) for top, bottom in PAIRS]
    return found + [(top, Fraction(top)) for top in (-5, -1, 0, 1, 2, 10 ** 50)]


class Building(Case):
    def test_examples(self):
        self.run_examples(EXAMPLES, {**vars(errors), **vars(ratios)})

    def test_lowest_terms_and_signs(self):
        for top, bottom, wanted in [
            (6, 4, (3, 2)), (-6, 4, (-3, 2)), (6, -4, (-3, 2)), (-6, -4, (3, 2)), (0, 5, (0, 1)), (0, -5, (0, 1)),
            (4, 2, (2, 1)), (4, -4, (-1, 1)), (7, 1, (7, 1)), (1, 7, (1, 7)), (10 ** 50, 10 ** 49, (10, 1)),
            (-(3 ** 100), 3 ** 99 * 2, (-3, 2)),
        ]:
            self.assert_ratio(Ratio(top, bottom), *wanted)

    def test_bottom_is_1_if_left_out(self):
        self.assert_ratio(Ratio(-3), -3)
        self.assert_ratio(Ratio(0), 0)

    def test_by_name(self):
        self.assert_ratio(Ratio(bottom=-4, top=2), -1, 2)
        self.assert_ratio(Ratio(top=5), 5)
        self.assert_ratio(Ratio(1, 2).over(number=4), 1, 8)
        self.assert_ratio(as_ratio(given=3), 3)
        self.assert_ratio(read_ratio(text="-2/5"), -2, 5)
        self.assert_ratio(total(numbers=[1, 2]), 3)

    def test_bottom_0(self):
        for top in (0, 1, -3, 10 ** 50):
            self.assert_raises(ByZero, {}, Ratio, top, 0)
            self.assert_raises(ByZero, {}, Ratio, top=top, bottom=0)


class Reckoning(Case):
    def test_like_fractions(self):
        for top, bottom in PAIRS:
            one, exact = Ratio(top, bottom), Fraction(top, bottom)
            for other, other_exact in operands():
                for sign in (operator.add, operator.sub, operator.mul):
                    told, wanted = sign(one, other), sign(exact, other_exact)
                    self.assert_ratio(told, wanted.numerator, wanted.denominator)
                for sign in (operator.eq, operator.ne, operator.lt, operator.le):
                    self.assertIs(sign(one, other), sign(exact, other_exact))
            self.assert_ratio(one, exact.numerator, exact.denominator)

    def test_opposite(self):
        self.assert_ratio(-Ratio(2, 4), -1, 2)
        self.assert_ratio(-Ratio(-3), 3)
        self.assert_ratio(-Ratio(0), 0)

    def test_over(self):
        for top, bottom in PAIRS:
            one, exact = Ratio(top, bottom), Fraction(top, bottom)
            for other, other_exact in operands():
                if other_exact == 0:
                    self.assert_raises(ByZero, {}, one.over, other)
                else:
                    wanted = exact / other_exact
                    self.assert_ratio(one.over(other), wanted.numerator, wanted.denominator)

    def test_operators_change_nothing(self):
        one, other = Ratio(1, 2), Ratio(1, 3)
        for told in (one + other, one - other, one * other, -one, one.over(other), one + 1):
            self.assertIsNot(told, one)
        one += other
        self.assert_ratio(one, 5, 6)
        self.assert_ratio(other, 1, 3)

    def test_other_values_on_the_right(self):
        signs = (operator.add, operator.sub, operator.mul, operator.lt, operator.le)
        for value in odd_values():
            for sign in signs:
                with self.assertRaises(TypeError):
                    sign(Ratio(1), value)

    def test_total(self):
        self.assert_ratio(total([]), 0)
        self.assert_ratio(total(()), 0)
        self.assert_ratio(total([3]), 3)
        self.assert_ratio(total([1, 2, -3]), 0)
        self.assert_ratio(total((half(1), Ratio(1, 3), 1)), 11, 6)
        numbers = [half(1), 1]
        total(numbers)
        self.assertEqual(len(numbers), 2)
        self.assert_ratio(numbers[0], 1, 2)
        self.assertIs(type(numbers[1]), int)


class Equality(Case):
    def test_with_integers_on_either_side(self):
        self.assertTrue(Ratio(4, 2) == 2 and 2 == Ratio(4, 2))
        self.assertFalse(Ratio(4, 2) != 2 or 2 != Ratio(4, 2))
        self.assertFalse(Ratio(1, 2) == 0 or 0 == Ratio(1, 2) or Ratio(1, 2) == 1)
        self.assertEqual([Ratio(0), (Ratio(3),)], [0, (3,)])

    def test_true_and_false_are_no_numbers(self):
        for number, truth in [(1, True), (0, False)]:
            self.assertFalse(Ratio(number) == truth or truth == Ratio(number))
            self.assertTrue(Ratio(number) != truth and truth != Ratio(number))

    def test_with_other_classes(self):
        for value in odd_values() + strange_values() + [half(1).text(), [half(1)], (1, 2)]:
            for number in (half(1), Ratio(1), Ratio(0)):
                self.assertIs(number == value, False)
                self.assertIs(number != value, True)


class AsRatio(Case):
    def test_numbers(self):
        self.assert_ratio(as_ratio(-4), -4)
        self.assert_ratio(as_ratio(0), 0)
        self.assert_ratio(as_ratio(Ratio(6, -4)), -3, 2)
        self.assert_ratio(as_ratio(10 ** 50), 10 ** 50)

    def test_others(self):
        for value in odd_values() + strange_values() + ["3", [3], (3,), {"top": 1, "bottom": 2}]:
            self.assert_bad(BadNumber, value, as_ratio, value)
            self.assert_bad(BadNumber, value, as_ratio, given=value)


class Texts(Case):
    def test_text(self):
        for number, text in [
            (Ratio(-2, 5), "-2/5"), (Ratio(3), "3"), (Ratio(0), "0"), (Ratio(-7), "-7"), (Ratio(10, 20), "1/2"),
            (Ratio(10 ** 59), "1" + "0" * 59), (Ratio(10 ** 60), "1" + "0" * 60), (Ratio(1, 10 ** 61), "1/1" + "0" * 61),
            (Ratio(-(10 ** 60) + 1), "-" + "9" * 60), (Ratio(10 ** 121 + 5), "1" + "0" * 120 + "5"),
        ]:
            self.assertEqual(number.text(), text)
            self.assertIs(type(number.text()), str)
            self.assert_ratio(read_ratio(text), number.top, number.bottom)

    def test_read_what_has_been_told(self):
        for top, bottom in PAIRS:
            number = Ratio(top, bottom)
            self.assert_ratio(read_ratio(number.text()), number.top, number.bottom)

    def test_near_misses(self):
        for text in [
            "", " ", "-", "/", "+3", "-0", "1/1", "-1/1", " 1", "1 ", "01", "-01", "00", "2/4", "-2/4", "0/1", "0/5",
            "1/0", "0/0", "1/01", "01/2", "1/-2", "-1/-2", "+1/2", "1/+2", "1 /2", "1/ 2", "1/", "/2", "-/2", "1//2",
            "1/2/3", "--1", "-+1", "1-", "1\n", "\n1", "1\n2", "1/2\n", "1_0", "1.0", "1e3", "0x1", "a", "1a", "1,0",
            "- 1", "~", "1:2", "3/1", "4/2", "True", "None", "-", "1" * 61 + "/" + "1" * 61, "0" * 60 + "1",
            "\u0661", "\u00b2", "1/\u00b2", "\uff11",
        ]:
            self.assert_raises(BadText, {}, read_ratio, text)

    def test_all_short_strings(self):
        good = {Ratio(top, bottom).text() for top in range(-99, 100) for bottom in range(1, 100)}
        good |= {str(top) for top in range(-999, 10000)}
        signs = ["", "-", "+", "/", " ", "0", "1", "2", "4", "\n"]
        for word in {a + b + c + d for a in signs for b in signs for c in signs for d in signs}:
            if word in good:
                self.assertEqual(read_ratio(word).text(), word)
            else:
                self.assert_raises(BadText, {}, read_ratio, word)

    def test_numbers_longer_than_python_itself_writes(self):
        number = Ratio(10 ** 49 + 1, 7)
        for _ in range(8):
            number = number * number
        self.assertGreater(number.top, 10 ** 12000)
        text = number.text()
        self.assertEqual(len(text.split("/")[0]), 49 * 256 + 1)
        again = read_ratio(text)
        self.assert_ratio(again, number.top, number.bottom)
        self.assertTrue(text.endswith("/" + str(7 ** 256)))
        for near in ("0" + text, "+" + text, text + "/2", text + " ", "-" + text.replace("/", "/-")):
            self.assert_raises(BadText, {}, read_ratio, near)
