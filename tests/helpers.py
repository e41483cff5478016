"""What the tests share: odd values, checks of errors, and examples that are run word by word."""

import ast
import unittest

from firstmeans.ratios import Ratio


def half(top):
    return Ratio(top, 2)


def odd_values():
    """Values of the listed kinds that are neither numbers nor lists of numbers, new on each call."""
    deep = []
    for _ in range(2000):
        deep = [deep]
    return [
        None, True, False, "", "1", "1/2", "a" * 50,
        [None], [True], [False, 1], ["1"], [[1]], [[]], [(1, 2), [3]], [{}], [1, "2"], [Ratio(1), None],
        (None,), (True, False), ((), ()), ("is", [1, 2], 0),
        {}, {"a": 1}, {"0": 0, "1": 1}, {"a": {"b": [Ratio(1, 2), None]}}, [{"a": (1, [True])}], deep,
    ]


def strange_values():
    """Values of other kinds, of which a function called is_.. must not fail either."""
    loop = []
    loop.append(loop)
    return [1.0, 0.5, float("nan"), [0.5, 0.5], [1.0, 0], 1j, b"10", bytearray(2), {1, 0}, frozenset([0, 1]),
            range(2), iter([1, 0]), object(), object, len, lambda: 0, NotImplemented, ..., loop,
            Exception("1"), (part for part in [0, 1])]


def texts(numbers):
    return [number.text() for number in numbers]


class Case(unittest.TestCase):
    def assert_raises(self, kind, kept, call, /, *values, **named):
        """The call raises just this error, which keeps the very values that are told of it."""
        with self.assertRaises(kind) as caught:
            call(*values, **named)
        self.assertIs(type(caught.exception), kind)
        self.assertEqual(set(vars(caught.exception)), set(kept))
        for name, value in kept.items():
            self.assertIs(getattr(caught.exception, name), value)

    def assert_bad(self, kind, given, call, /, *values, **named):
        self.assert_raises(kind, {"given": given}, call, *values, **named)

    def assert_ratio(self, number, top, bottom=1):
        self.assertIs(type(number), Ratio)
        self.assertEqual((type(number.top), type(number.bottom)), (int, int))
        self.assertEqual((number.top, number.bottom), (top, bottom))

    def assert_ratios(self, numbers, wanted):
        """A list, not a tuple, of Ratios, not of integers, that have these texts."""
        self.assertIs(type(numbers), list)
        self.assertEqual([type(number) for number in numbers], [Ratio] * len(numbers))
        self.assertEqual(texts(numbers), wanted.split())

    def assert_places(self, places, wanted):
        self.assertIs(type(places), list)
        self.assertEqual([type(place) for place in places], [int] * len(places))
        self.assertEqual(places, wanted)

    def run_examples(self, text, names):
        """Run the rows that begin with >>>; the row below one that tells something is what it told."""
        rows = [row.strip() for row in text.strip().splitlines()]
        for at, row in enumerate(rows):
            if not row.startswith(">>> "):
                continue
            code = row[4:]
            if not isinstance(ast.parse(code).body[0], ast.Expr):
                exec(code, names)
            elif rows[at + 1].startswith("raises "):
                self.check_raised(code, rows[at + 1][7:], names)
            else:
                self.assertEqual(repr(eval(code, names)), rows[at + 1])

    def check_raised(self, code, wanted, names):
        error = eval(wanted, names)
        with self.assertRaises(type(error)) as caught:
            eval(code, names)
        self.assertIs(type(caught.exception), type(error))
        self.assertEqual(vars(caught.exception), vars(error))
