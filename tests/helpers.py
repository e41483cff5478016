"""What the tests share: odd values, checks of errors, and examples that are run word by word."""

import ast
import unittest

from firstmeans.errors import NoLot
from firstmeans.ratios import Ratio
from firstmeans.scales import Scale, means_of

NOT_A_LIST_OF_NUMBERS = [7, 0, Ratio(1, 2), -1]


def half(top):
    return Ratio(top, 2)


def odd_values():
    """Values of the listed kinds that are neither numbers nor lists of numbers, new on each call."""
    deep = []
    for _ in range(2000):
        deep = [deep]
    return [
        None, True, False, "", "1", "1/2", "a" * 50,
        [None], [True], [False, 1], ["1"], [[1]], [[]], [(1, 2), [3]], [{}], [1, "2"], [Ratio(1), None],
        (None,), (True, False), ((), ()), ("is", [1, 2], 0),
        {}, {"a": 1}, {"0": 0, "1": 1}, {"a": {"b": [Ratio(1, 2), None]}}, [{"a": (1, [True])}], deep,
    ]


def strange_values():
    """Values of other kinds, of which a function called is_.. must not fail either."""
    loop = []
    loop.append(loop)
    return [1.0, 0.5, float("nan"), [0.5, 0.5], [1.0, 0], 1j, b"10", bytearray(2), {1, 0}, frozenset([0, 1]),
            range(2), iter([1, 0]), object(), object, len, lambda: 0, NotImplemented, ..., loop,
            Exception("1"), (part for part in [0, 1])]


def trio():
    return Scale([0, 1, 3])


def wrong_lots():
    """Values that are no lot of a scale of three values."""
    return odd_values() + NOT_A_LIST_OF_NUMBERS + [
        [], [1], [half(1), half(1)], [1, 0, 0, 0], [0, 0, 0], [1, 1, 0], [half(1), half(1), half(1)],
        [half(1), 0, Ratio(1, 3)], [-1, 1, 1], [2, -1, 0], [half(3), 0, half(-1)], [True, 0, 0], [0, False, 1],
        [1, 0, None], [1, 0, "0"], [[1, 0, 0]], "100", {"0": 1, "1": 0, "3": 0}, [[1], [0], [0]], ((), (), ()),
        (1, 0), (1, 0, 0, 0), (1, True, 0),
    ]


def wrong_curves():
    """Values that are no curve of a scale of three values."""
    return odd_values() + NOT_A_LIST_OF_NUMBERS + [
        [], [1], [1, 2], [1, 2, 3, 4], (1, 2), [1, 2, True], [False, 1, 2], [1, None, 2], [1, "2", 3], [[1, 2, 3]],
        [1, [2], 3], "123", {"a": 1, "b": 2, "c": 3},
    ]


def wrong_counts(most):
    """Values that are no integer from 0 to the most."""
    return odd_values() + [-1, -9, most + 1, 10 ** 50, -(10 ** 50), Ratio(1), Ratio(0), half(1), Ratio(most), [1], (1,)]


def wrong_lists(most, least=1):
    """Values that are no list of numbers of a length from the least to the most."""
    found = odd_values() + NOT_A_LIST_OF_NUMBERS + ["12", {"a": 1, "b": 2}, [[1, 2]], [[1], [2]]]
    found += [[0] * (most + 1), tuple([half(1)] * (most + 1)), [True] + [0] * (most - 1), [0] * (most - 1) + [False]]
    found += [[0] * (most - 1) + [None], tuple([1] * (most - 1) + ["1"]), [[1]] * most]
    if least > 0:
        found += [[1] * (least - 1), tuple([half(1)] * (least - 1))]
    return found


def wrong_means(scale):
    """Values that are no list of means of a scale: no numbers, more than 4, or as many as the values."""
    least = min(5, len(scale))
    found = odd_values() + NOT_A_LIST_OF_NUMBERS + ["01", {"a": 1}, [[0]], ([0],), [0] * 9, (half(1),) * 8]
    found += [[0] * least, (Ratio(1),) * least, [1] * (least + 1)]
    if least > 1:
        found += [[0] * (least - 2) + [None], [True] + [1] * (least - 2), tuple([1] * (least - 2) + ["1"])]
    return found


def wrong_places(size):
    """Values that are no list of one or more ascending places of a scale of a size from 3 on."""
    return odd_values() + [
        [], (), 0, 1, "0", "01", [size], [0, size], [-1], [-1, 0], [-1, 0, 1], [1, 0], [2, 1, 0], [0, 0], (1, 1),
        [0, 1, 1], [0, 2, 1], [0, True], [False, 1], [True], [Ratio(0)], [0, Ratio(1)], [half(1)], [0, None], [0, "1"],
        [[0]], [[0], [1]], [10 ** 50], [0, 10 ** 50], {"0": 0}, list(range(size + 1)), (0, 1, -1),
    ]


def wrong_orders(most):
    """Values that are no integer from 1 to the most."""
    found = odd_values() + [0, -1, -2, most + 1, most + 5, 10 ** 50, -(10 ** 50)]
    return found + [Ratio(1), Ratio(most), half(1), [1], (1,)]


def wrong_numbers():
    """Values that are no number."""
    return odd_values() + [[], (), [1], (1,), [half(1)], [0, 0], {"top": 1, "bottom": 2}]


def scales():
    """Scales of one value, of two and more, up to eight, with unlike steps, some below 0."""
    rows = [
        [0], [-3], [half(7)], [0, 1], [-2, half(-1)], [0, 1, 3], [-4, half(-1), 0], [0, 1, 2, 3], [-5, -1, half(3), 4],
        [-2, -1, 0, half(1), 6], [-1, 0, 1, 2, 5, 11], [-7, -3, -2, 0, Ratio(1, 3), half(1), 2],
        [-5, -2, half(-1), 0, Ratio(1, 3), 1, 4, 9],
    ]
    return [Scale(row) for row in rows]


def lots(scale):
    """Lots of a scale: each value alone, all values, and mixtures that leave out some."""
    size = len(scale)
    found = [[1 if at == place else 0 for at in range(size)] for place in range(size)]
    for row in ([1] * 8, [1, 2, 3, 4, 5, 6, 7, 8], [1, 0] * 4, [0, 1] * 4, [3, 0, 0, 1, 0, 0, 0, 2],
                [0, 2, 1, 0, 0, 4, 3, 0], [0, 0, 5, 2, 0, 0, 1, 1], [1, 0, 0, 0, 0, 0, 0, 1]):
        if sum(row[:size]) > 0:
            found.append([Ratio(part, sum(row[:size])) for part in row[:size]])
    return found


def curves(scale):
    """Curves of a scale that bend up, down, both ways and neither way, by their order."""
    rows = [
        [0] * 8, [1] * 8, [0, 1, 4, 9, 16, 25, 36, 49], [0, 0, 1, 1, 0, 2, -3, 5], [9, 4, 1, 0, -1, -4, -9, -16],
        [half(3), -2, 7, Ratio(1, 3), 0, 0, 2, 1], [0, 0, 0, 0, 0, 0, 0, 1], [5, 0, 0, 0, 0, 0, 0, 5],
    ]
    found = [row[:len(scale)] for row in rows]
    for exponent in range(6):
        for sign in (1, -1):
            found.append([raised(mark, exponent) * sign for mark in scale.marks()])
    return found


def raised(number, exponent):
    reached = Ratio(1)
    for _ in range(exponent):
        reached = reached * number
    return reached


def means_that_lots_have(scale, most=4):
    """Lists of means, from none to as many as there may be, that some lots have, and the lots."""
    return [(means_of(scale, lot, d), lot) for lot in lots(scale) for d in range(min(most, len(scale) - 1) + 1)]


def means_that_no_lot_has(scale):
    """Lists of one to four means, as far as a scale lets, that no lot has."""
    marks = scale.marks()
    found = [[marks[0] - Ratio(1, 10 ** 9)], [marks[-1] + half(1)]]
    found += [[0, -1], [marks[-1], marks[-1] * marks[-1] - 1], [half(1), Ratio(1, 4) - Ratio(1, 100)]]
    for d in (2, 3, 4):
        for lot in lots(scale)[:-1:3]:
            means = means_of(scale, lot, d)
            found += [[*means[:-1], means[-1] + 10 ** 6], [*means[:-1], means[-1] - 10 ** 6]]
    return [means for means in found if len(means) < len(scale)]


def texts(numbers):
    return [number.text() for number in numbers]


def repr_of(value):
    """A text of numbers, and of lists and tuples of them, with their kinds."""
    if isinstance(value, (list, tuple)):
        return (type(value).__name__, [repr_of(item) for item in value])
    return (type(value).__name__, value.text() if isinstance(value, Ratio) else repr(value))


def spoil(value):
    """Change all lists within a value."""
    if isinstance(value, (list, tuple)):
        for item in value:
            spoil(item)
    if isinstance(value, list):
        value[:] = ["spoiled"]


class Case(unittest.TestCase):
    def assert_raises(self, kind, kept, call, /, *values, **named):
        """The call raises just this error, which keeps the very values that are told of it."""
        with self.assertRaises(kind) as caught:
            call(*values, **named)
        self.assertIs(type(caught.exception), kind)
        self.assertEqual(set(vars(caught.exception)), set(kept))
        for name, value in kept.items():
            self.assertIs(getattr(caught.exception, name), value)

    def assert_bad(self, kind, given, call, /, *values, **named):
        self.assert_raises(kind, {"given": given}, call, *values, **named)

    def assert_ratio(self, number, top, bottom=1):
        self.assertIs(type(number), Ratio)
        self.assertEqual((type(number.top), type(number.bottom)), (int, int))
        self.assertEqual((number.top, number.bottom), (top, bottom))

    def assert_ratios(self, numbers, wanted):
        """A list, not a tuple, of Ratios, not of integers, that have these texts."""
        self.assertIs(type(numbers), list)
        self.assertEqual([type(number) for number in numbers], [Ratio] * len(numbers))
        self.assertEqual(texts(numbers), wanted.split())

    def assert_places(self, places, wanted):
        self.assertIs(type(places), list)
        self.assertEqual([type(place) for place in places], [int] * len(places))
        self.assertEqual(places, wanted)

    def assert_no_lot(self, bar, call, /, *values, **named):
        """The call raises NoLot with a new list of Ratios that is equal to a bar."""
        with self.assertRaises(NoLot) as caught:
            call(*values, **named)
        self.assertIs(type(caught.exception), NoLot)
        self.assertEqual(set(vars(caught.exception)), {"bar"})
        self.assert_ratios(caught.exception.bar, " ".join(texts(bar)))

    def assert_new_lists(self, call):
        """What the call returns is new each time: whatever is done to it, the next answer is the same."""
        first = call()
        told = repr_of(first)
        spoil(first)
        self.assertEqual(repr_of(call()), told)

    def run_examples(self, text, names):
        """Run the rows that begin with >>>; the row below one that tells something is what it told."""
        rows = [row.strip() for row in text.strip().splitlines()]
        for at, row in enumerate(rows):
            if not row.startswith(">>> "):
                continue
            code = row[4:]
            if not isinstance(ast.parse(code).body[0], ast.Expr):
                exec(code, names)
            elif rows[at + 1].startswith("raises "):
                self.check_raised(code, rows[at + 1][7:], names)
            else:
                self.assertEqual(repr(eval(code, names)), rows[at + 1])

    def check_raised(self, code, wanted, names):
        error = eval(wanted, names)
        with self.assertRaises(type(error)) as caught:
            eval(code, names)
        self.assertIs(type(caught.exception), type(error))
        self.assertEqual(vars(caught.exception), vars(error))
