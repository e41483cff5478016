"""A desk: its deeds [110], what it tells [111], back and forth [112], its texts [113]."""

from firstmeans import desk as desk_file
from firstmeans import errors, ratios, scales
from firstmeans.anycurve import greatest, least
from firstmeans.desk import Desk, read_desk
from firstmeans.errors import (
    BadCurve, BadName, BadNumber, BadNumbers, BadText, BadValue, MeansError, NoName, NothingToRedo, NothingToUndo,
    TooMany,
)
from firstmeans.extremes import high, low
from firstmeans.nexts import least_line, next_range
from firstmeans.ratios import Ratio
from firstmeans.scales import Scale
from tests import helpers
from tests.helpers import Case, half, odd_values, texts, trio, wrong_curves, wrong_numbers

EXAMPLES = """
    >>> desk = Desk(Scale([0, 1, 2]))
    >>> desk.name("top", [0, 0, 1]), desk.tell(1), desk.bounds("top")[1].text(), [number.text() for number in desk.next()], len(desk)
    (None, None, '1/2', ['1', '2'], 2)
    >>> desk.tell(2), desk.settled(), [number.text() for number in desk.ends()[0]], desk.text()
    (None, ['top'], ['1/2', '0', '1/2'], '0 1 2\\nmeans 1 2\\ntop 0 0 1')
    >>> desk.undo(), desk.tried(lambda inner: [inner.tell(1), inner.bounds("top")[1] == 0])
    (None, [None, True])
    >>> desk.bounds("low")
    raises NoName('low')
"""

WRONG_NAMES = ["", "A", "Top", "tOp", "top ", " top", "to p", "top1", "1", "_", "a_b", "a-b", "abcdefghi", "a" * 9, "top\n",
               "\n", "a.b", "{", "`", "\u00e9", "\u00df", "\u0430", "z\u0301"]


def full():
    """A desk of four values with a mean and two curves, after some deeds and with some that can be done again."""
    desk = Desk(Scale([0, 1, 3]))
    desk.name("up", [0, half(1), 5])
    desk.tell(1)
    desk.name("a", [1, 1, 1])
    desk.put(2, {"a": 1, "up": half(-1)})
    desk.tell(2)
    desk.drop("a")
    desk.undo()
    desk.undo()
    return desk


def told(desk):
    """All that a desk tells, with what can be taken back and done again."""
    rows = [desk.text(), len(desk), desk.scale().text(), texts(desk.means()), desk.names(), texts(desk.next()),
            [texts(lot) for lot in desk.ends()], desk.settled()]
    for word in desk.names():
        line = [texts(point) for point in desk.line(word)]
        rows += [word, texts(desk.curve(word)), texts(desk.bounds(word)), line]
    return rows


def whole(desk):
    """All that a desk tells now, after each undo, and after each redo that can be done now. It uses up the desk."""
    rows = [told(desk)]
    redone = 0
    while True:
        try:
            desk.redo()
        except NothingToRedo:
            break
        redone += 1
        rows.append(("redo", told(desk)))
    for _ in range(redone):
        desk.undo()
    while True:
        try:
            desk.undo()
        except NothingToUndo:
            return rows
        rows.append(("undo", told(desk)))


class Deeds(Case):
    def test_examples(self):
        self.run_examples(EXAMPLES, {**vars(errors), **vars(ratios), **vars(scales), **vars(desk_file)})

    def test_a_new_desk(self):
        desk = Desk(scale=trio())
        self.assertEqual(len(desk), 0)
        self.assertIs(type(desk.scale()), Scale)
        self.assertEqual((desk.scale(), desk.means(), desk.names(), desk.settled()), (trio(), [], [], []))
        self.assertEqual(texts(desk.next()), ["0", "3"])
        self.assertEqual([texts(lot) for lot in desk.ends()], [["1", "0", "0"], ["0", "0", "1"]])
        self.assertEqual(desk.text(), "0 1 3\nmeans")

    def test_tell(self):
        desk = Desk(trio())
        self.assertIsNone(desk.tell(half(3)))
        self.assert_ratios(desk.means(), "3/2")
        self.assertIsNone(desk.tell(number=3))
        self.assert_ratios(desk.means(), "3/2 3")
        self.assertEqual(len(desk), 2)
        for number in (1, None, [], True):
            self.assert_too_many(2, desk, number)
        self.assert_too_many(0, Desk(Scale([4])), 4)
        desk = Desk(Scale([0, 1, 2, 3, 4, 5, 6, 7]))
        for number in (2, 7, 30, 150):
            start, end = desk.next()
            desk.tell((start + end).over(2))
        self.assertEqual(len(desk.means()), 4)
        self.assert_too_many(4, desk, desk.next()[0])
        self.assertEqual(len(desk), 4)

    def assert_too_many(self, count, desk, number):
        before = desk.text(), len(desk)
        with self.assertRaises(TooMany) as caught:
            desk.tell(number)
        self.assertEqual(vars(caught.exception), {"count": count})
        self.assertIs(type(caught.exception.count), int)
        self.assertEqual((desk.text(), len(desk)), before)

    def test_tell_at_the_ends_of_the_range_and_beyond(self):
        tiny = Ratio(1, 10 ** 50)
        for scale in helpers.scales()[1:]:
            for end in (0, 1):
                desk = Desk(scale)
                for _ in range(min(4, len(scale) - 1)):
                    start, last = desk.next()
                    for number in (start - tiny, last + tiny, start - 1, last + 1, 10 ** 50, -(10 ** 50)):
                        self.assert_bad(BadNumber, number, desk.tell, number)
                    desk.tell((start, last)[end])
                self.assertEqual(len(desk), min(4, len(scale) - 1))

    def test_tell_wrong_numbers(self):
        desk = full()
        for number in wrong_numbers():
            self.assert_bad(BadNumber, number, desk.tell, number)
            self.assert_bad(BadNumber, number, desk.tell, number=number)
        self.assertEqual(whole(desk), whole(full()))

    def test_name(self):
        desk = Desk(trio())
        for word in ("a", "z", "abcdefgh", "means", "top"):
            self.assertIsNone(desk.name(word, [1, half(1), 0]))
            self.assert_ratios(desk.curve(word), "1 1/2 0")
        self.assertEqual(desk.names(), ["a", "abcdefgh", "means", "top", "z"])
        self.assertIsNone(desk.name(curve=(4, 5, 6), word="a"))
        self.assert_ratios(desk.curve("a"), "4 5 6")
        self.assertEqual(desk.names(), ["a", "abcdefgh", "means", "top", "z"])
        self.assertEqual(len(desk), 6)
        desk.undo()
        self.assert_ratios(desk.curve("a"), "1 1/2 0")

    def test_wrong_names_ahead_of_wrong_curves(self):
        desk = full()
        wrong = [value for value in odd_values() if not isinstance(value, str)] + WRONG_NAMES
        wrong += ["a" * 50, 0, 7, half(1), ["a"], ("a",), {"a": 1}, "1/2"]
        for word in wrong:
            for curve in ([1, 2, 3, 4], [1], None):
                self.assert_bad(BadName, word, desk.name, word, curve)
            self.assert_bad(BadName, word, desk.name, curve=(0, 0, 0, 0), word=word)
        self.assertEqual(whole(desk), whole(full()))

    def test_name_wrong_curves(self):
        desk = Desk(trio())
        for curve in wrong_curves():
            self.assert_bad(BadCurve, curve, desk.name, "a", curve)
            self.assert_bad(BadCurve, curve, desk.name, curve=curve, word="a")
        self.assertEqual((len(desk), desk.names()), (0, []))

    def test_drop(self):
        desk = full()
        self.assertIsNone(desk.drop("up"))
        self.assertEqual((desk.names(), len(desk)), (["a"], 5))
        self.assertIsNone(desk.drop(word="a"))
        self.assertEqual(desk.names(), [])
        self.assert_bad(NoName, "a", desk.drop, "a")

    def test_no_names(self):
        desk = full()
        for word in [value for value in odd_values()] + WRONG_NAMES + ["b", "upp", "u", "UP", 0, half(1), ["up"], ("a",)]:
            for call in (desk.drop, desk.curve, desk.bounds, desk.line):
                self.assert_bad(NoName, word, call, word)
                self.assert_bad(NoName, word, call, word=word)
        self.assertEqual(whole(desk), whole(full()))

    def test_put(self):
        desk = Desk(trio())
        self.assertIsNone(desk.put(2, {}))
        self.assertEqual(desk.scale().text(), "0 1 2 3")
        desk.name("a", [0, 1, 2, 3])
        desk.name("b", [5, 5, 5, half(1)])
        self.assertIsNone(desk.put(numbers={"b": 9, "a": Ratio(-1, 3)}, value=half(-1)))
        self.assertEqual(desk.scale().text(), "-1/2 0 1 2 3")
        self.assert_ratios(desk.curve("a"), "-1/3 0 1 2 3")
        self.assert_ratios(desk.curve("b"), "9 5 5 5 1/2")
        desk.put(4, {"a": 0, "b": 0})
        self.assert_ratios(desk.curve("a"), "-1/3 0 1 2 3 0")
        self.assertEqual(len(desk), 5)
        desk.undo()
        self.assertEqual(desk.scale().text(), "-1/2 0 1 2 3")
        self.assert_ratios(desk.curve("b"), "9 5 5 5 1/2")

    def test_put_keeps_the_means_and_makes_room_for_more(self):
        desk = Desk(Scale([0, 1]))
        desk.tell(half(1))
        self.assert_too_many(1, desk, half(1))
        self.assertEqual(texts(desk.next()), ["1/2", "1/2"])
        desk.put(2, {})
        self.assertEqual(texts(desk.next()), ["1/2", "1"])
        desk.tell(1)
        self.assert_ratios(desk.means(), "1/2 1")
        self.assert_ratios(desk.ends()[0], "3/4 0 1/4")

    def test_put_up_to_eight_values(self):
        desk = Desk(Scale([0, 1, 2, 3, 4, 5, 6]))
        desk.put(half(1), {})
        self.assertEqual(len(desk.scale()), 8)
        for value in (half(3), 9, 0, None):
            self.assert_bad(BadValue, value, desk.put, value, {})
            self.assert_bad(BadValue, value, desk.put, value, None)
        self.assertEqual(len(desk), 1)

    def test_put_wrong_values_ahead_of_wrong_numbers(self):
        desk = full()
        right = {"a": 1, "up": 2}
        for value in wrong_numbers() + [0, 1, 2, 3, Ratio(2), Ratio(0)]:
            self.assert_bad(BadValue, value, desk.put, value, right)
            self.assert_bad(BadValue, value, desk.put, value, None)
            self.assert_bad(BadValue, value, desk.put, numbers={}, value=value)
        self.assertEqual(whole(desk), whole(full()))

    def test_put_wrong_numbers(self):
        desk = full()
        wrong = [value for value in odd_values() if value != {}] + [7, half(1), [], (), {}, {"a": 1}, {"up": 1}]
        wrong += [{"a": 1, "up": 2, "b": 3}, {"a": 1, "b": 2}, {"a": 1, "up": None}, {"a": True, "up": 2}, {"a": "1", "up": 2},
                  {"a": 1, "up": [2]}, {"A": 1, "up": 2}, {"a": 1, "": 2}, [("a", 1), ("up", 2)], ("a", "up"), "aup"]
        for numbers in wrong:
            self.assert_bad(BadNumbers, numbers, desk.put, 9, numbers)
            self.assert_bad(BadNumbers, numbers, desk.put, numbers=numbers, value=half(1))
        self.assertEqual(whole(desk), whole(full()))
        empty = Desk(trio())
        for numbers in wrong:
            if numbers != {}:
                self.assert_bad(BadNumbers, numbers, empty.put, 9, numbers)
        self.assertEqual((len(empty), len(empty.scale())), (0, 3))

    def test_deeds_that_change_nothing_are_deeds(self):
        desk = Desk(trio())
        desk.name("a", [1, 2, 3])
        desk.name("a", [1, 2, 3])
        self.assertEqual((len(desk), desk.names()), (2, ["a"]))
        desk.undo()
        self.assertEqual((len(desk), desk.names()), (1, ["a"]))
        desk.name("a", (Ratio(1), 2, 3))
        self.assertEqual(len(desk), 2)
        self.assert_raises(NothingToRedo, {}, desk.redo)

    def test_what_is_passed_is_neither_kept_nor_changed(self):
        curve, numbers = [1, 2, Ratio(3)], {"a": Ratio(9)}
        desk = Desk(trio())
        desk.name("a", curve)
        self.assertEqual(curve, [1, 2, 3])
        curve[:] = ["spoiled"]
        self.assert_ratios(desk.curve("a"), "1 2 3")
        desk.put(2, numbers)
        self.assertEqual(numbers, {"a": 9})
        numbers["a"] = numbers["b"] = 5
        self.assert_ratios(desk.curve("a"), "1 2 9 3")
        desk.undo()
        desk.redo()
        self.assert_ratios(desk.curve("a"), "1 2 9 3")


class Told(Case):
    def test_as_the_functions_beside_it(self):
        for scale in helpers.scales():
            desk = Desk(scale)
            curves = helpers.curves(scale)[2:7]
            for word, curve in zip("edcba", curves):
                desk.name(word, curve)
            for parts in (1, 2, 3, 2, 5):
                means = desk.means()
                settled = []
                for word, curve in zip("edcba", curves):
                    self.assertEqual(desk.curve(word), curve)
                    wanted = least(scale, means, curve)[0], greatest(scale, means, curve)[0]
                    bounds = desk.bounds(word)
                    self.assertIs(type(bounds), tuple)
                    self.assert_ratios(list(bounds), " ".join(texts(wanted)))
                    self.assertEqual(desk.line(word), least_line(scale, means, curve))
                    settled += [word] if wanted[0] == wanted[1] else []
                self.assertEqual(desk.settled(), settled[::-1])
                self.assertEqual(desk.names(), ["a", "b", "c", "d", "e"])
                self.assertIs(type(desk.next()), tuple)
                self.assertEqual(desk.next(), next_range(scale, means))
                self.assertIs(type(desk.ends()), tuple)
                self.assertEqual(desk.ends(), (low(scale, means), high(scale, means)))
                for lot in desk.ends():
                    self.assert_ratios(lot, " ".join(texts(lot)))
                if len(means) < min(4, len(scale) - 1):
                    start, end = desk.next()
                    desk.tell(start + (end - start).over(parts))

    def test_settled(self):
        desk = Desk(trio())
        desk.name("line", [1, 2, 4])
        desk.name("flat", [7, 7, 7])
        desk.name("bent", [0, 0, 1])
        self.assertEqual(desk.settled(), ["flat"])
        desk.tell(1)
        self.assertEqual(desk.settled(), ["flat", "line"])
        desk.tell(2)
        self.assertEqual(desk.settled(), ["bent", "flat", "line"])
        desk.undo()
        self.assertEqual(desk.settled(), ["flat", "line"])

    def test_what_is_returned_is_new(self):
        desk = full()
        for call in (desk.means, desk.names, desk.next, desk.ends, desk.settled, desk.scale().marks,
                     lambda: desk.curve("a"), lambda: desk.bounds("up"), lambda: desk.line("up")):
            self.assert_new_lists(call)
        self.assertEqual(whole(desk), whole(full()))


class Back(Case):
    def test_undo_and_redo_over_several_deeds(self):
        desk, seen = Desk(trio()), []
        for deed in (lambda: desk.name("a", [0, 1, 0]), lambda: desk.tell(1), lambda: desk.put(2, {"a": 5}),
                     lambda: desk.tell(2), lambda: desk.name("a", [1, 1, 1, 1]), lambda: desk.drop("a")):
            seen.append(told(desk))
            deed()
        seen.append(told(desk))
        for rows in seen[-2::-1]:
            self.assertIsNone(desk.undo())
            self.assertEqual(told(desk), rows)
        self.assert_raises(NothingToUndo, {}, desk.undo)
        self.assertEqual(told(desk), seen[0])
        for rows in seen[1:]:
            self.assertIsNone(desk.redo())
            self.assertEqual(told(desk), rows)
        self.assert_raises(NothingToRedo, {}, desk.redo)
        self.assertEqual(told(desk), seen[-1])

    def test_back_and_forth(self):
        desk = Desk(trio())
        desk.tell(1)
        desk.tell(2)
        desk.undo()
        desk.redo()
        desk.undo()
        desk.undo()
        desk.redo()
        self.assertEqual((texts(desk.means()), len(desk)), (["1"], 1))
        desk.redo()
        self.assertEqual((texts(desk.means()), len(desk)), (["1", "2"], 2))

    def test_nothing_at_first(self):
        desk = Desk(trio())
        self.assert_raises(NothingToUndo, {}, desk.undo)
        self.assert_raises(NothingToRedo, {}, desk.redo)
        desk.tell(1)
        self.assert_raises(NothingToRedo, {}, desk.redo)

    def test_a_new_deed_ends_what_can_be_done_again(self):
        for deed in (lambda desk: desk.tell(1), lambda desk: desk.name("a", [1] * 4), lambda desk: desk.drop("a"),
                     lambda desk: desk.put(9, {"a": 1, "up": 1})):
            desk = full()
            deed(desk)
            self.assert_raises(NothingToRedo, {}, desk.redo)
            self.assertEqual(len(desk), 5)

    def test_a_refused_deed_does_not(self):
        for deed in (lambda desk: desk.tell(10 ** 9), lambda desk: desk.name("A", [1] * 4), lambda desk: desk.name("b", [1]),
                     lambda desk: desk.drop("b"), lambda desk: desk.put(2, {"a": 1, "up": 1}), lambda desk: desk.put(9, {})):
            desk = full()
            with self.assertRaises(MeansError):
                deed(desk)
            self.assertEqual(whole(desk), whole(full()))

    def test_tried(self):
        def act(inner):
            self.assertIs(inner, desk)
            inner.tell(2)
            inner.name("new", [0, 0, 0, 1])
            inner.put(half(1), {"new": 1, "a": 2, "up": 3})
            return [inner.text(), len(inner), inner.names()]
        desk = full()
        told_within = desk.tried(act)
        self.assertEqual(told_within[1:], [7, ["a", "new", "up"]])
        self.assertEqual(whole(desk), whole(full()))

    def test_tried_with_undo_and_redo_within(self):
        acts = [
            lambda inner: [inner.undo() for _ in range(4)], lambda inner: [inner.redo(), inner.redo()],
            lambda inner: [inner.undo(), inner.redo(), inner.redo(), inner.drop("up"), inner.undo()],
            lambda inner: [inner.undo(), inner.tell(1)], lambda inner: inner.redo(), lambda inner: None,
            lambda inner: [inner.redo(), inner.undo(), inner.undo(), inner.name("x", [0, 0, 0])],
        ]
        for act in acts:
            desk = full()
            desk.tried(act)
            self.assertEqual(whole(desk), whole(full()))
            desk = full()
            desk.tried(act=act)
            desk.tried(act)
            self.assertEqual(whole(desk), whole(full()))

    def test_tried_within_tried(self):
        def act(inner):
            inner.undo()
            first = inner.tried(lambda deep: [deep.undo(), deep.drop("up"), deep.names()])
            inner.drop("a")
            second = inner.tried(lambda deep: deep.tried(lambda deeper: [deeper.undo(), deeper.undo(), len(deeper)]))
            return first, second, inner.names(), len(inner)
        desk = full()
        self.assertEqual(desk.tried(act), ([None, None, []], [None, None, 2], ["up"], 4))
        self.assertEqual(whole(desk), whole(full()))

    def test_tried_returns_what_the_function_returns(self):
        for value in ([1, [2]], None, {"a": 1}, "x", object()):
            self.assertIs(Desk(trio()).tried(lambda inner: value), value)
        desk = full()
        self.assertIs(desk.tried(lambda inner: inner), desk)

    def test_errors_of_any_kind_within(self):
        class Odd(BaseException):
            """No error that a program would catch."""
        for error in (ValueError("x"), NoName("x"), KeyError(), Odd(), KeyboardInterrupt(), SystemExit(), GeneratorExit(),
                      StopIteration(), RecursionError()):
            def act(inner):
                inner.undo()
                inner.name("x", [0, 0, 0])
                raise error
            desk = full()
            with self.assertRaises(type(error)) as caught:
                desk.tried(act)
            self.assertIs(caught.exception, error)
            self.assertEqual(whole(desk), whole(full()))

    def test_an_error_of_the_desk_within(self):
        desk = full()
        self.assert_bad(NoName, "none", desk.tried, lambda inner: [inner.undo(), inner.drop("none")])
        self.assertEqual(whole(desk), whole(full()))

    def test_a_twin_goes_its_own_way(self):
        desk = full()
        twin = desk.twin()
        self.assertIs(type(twin), Desk)
        self.assertIsNot(twin, desk)
        self.assertEqual(len(twin), 0)
        self.assertEqual((twin.text(), twin.scale(), twin.names()), (desk.text(), desk.scale(), desk.names()))
        self.assert_raises(NothingToUndo, {}, twin.undo)
        self.assert_raises(NothingToRedo, {}, twin.redo)
        twin.name("up", [9, 9, 9, 9])
        twin.tell(2)
        twin.drop("a")
        self.assertEqual(whole(desk), whole(full()))
        desk = full()
        twin = desk.twin()
        before = twin.text()
        desk.tell(1)
        desk.drop("up")
        desk.put(9, {"a": 1})
        self.assertEqual((twin.text(), len(twin)), (before, 0))

    def test_a_twin_made_within_tried_stays(self):
        desk = full()
        twin = desk.tried(lambda inner: [inner.drop("up"), inner.twin()][1])
        self.assertEqual((twin.names(), len(twin)), (["a"], 0))
        self.assertEqual(whole(desk), whole(full()))


class Texts(Case):
    def test_some(self):
        desk = Desk(Scale([2, half(-1), 0]))
        self.assertEqual(desk.text(), "-1/2 0 2\nmeans")
        desk.name("top", [0, Ratio(-2, 6), 1])
        self.assertEqual(desk.text(), "-1/2 0 2\nmeans\ntop 0 -1/3 1")
        desk.name("means", [0, 0, 0])
        desk.tell(1)
        desk.name("a", [1, 2, 3])
        self.assertEqual(desk.text(), "-1/2 0 2\nmeans 1\na 1 2 3\nmeans 0 0 0\ntop 0 -1/3 1")
        desk.tell(Ratio(9, 4))
        desk.drop("a")
        self.assertEqual(desk.text(), "-1/2 0 2\nmeans 1 9/4\nmeans 0 0 0\ntop 0 -1/3 1")

    def test_read_back(self):
        for text in ("0\nmeans", "-1/2 0 2\nmeans", "-1/2 0 2\nmeans 1\na 1 2 3\nmeans 0 0 0\ntop 0 -1/3 1",
                     "0 1 2 3 4 5 6 7\nmeans 0 0 0 0\nabcdefgh 1 1 1 1 1 1 1 1\nb 0 0 0 0 0 0 0 0", "0 1\nmeans 1/2\nz 7 -7",
                     "1/3\nmeans\na 0\nb 0\nc 0"):
            desk = read_desk(text)
            self.assertIs(type(desk), Desk)
            self.assertEqual((desk.text(), len(desk)), (text, 0))
            self.assert_raises(NothingToUndo, {}, desk.undo)
            self.assert_raises(NothingToRedo, {}, desk.redo)
        self.assertEqual(read_desk(text=full().text()).text(), full().text())
        desk = read_desk("0 1 3\nmeans 1\nup 0 1 5")
        self.assertEqual((desk.scale(), desk.names()), (trio(), ["up"]))
        self.assert_ratios(desk.means(), "1")
        self.assert_ratios(desk.curve("up"), "0 1 5")
        desk.tell(2)
        self.assertEqual(desk.text(), "0 1 3\nmeans 1 2\nup 0 1 5")

    def test_desks_of_all_scales_are_read_back(self):
        for scale in helpers.scales():
            desk = Desk(scale)
            for word, curve in zip(("b", "a", "means"), helpers.curves(scale)[4:]):
                desk.name(word, curve)
            for parts in (2, 3, 1, 7):
                self.assertEqual(read_desk(desk.text()).text(), desk.text())
                if len(desk.means()) < min(4, len(scale) - 1):
                    start, end = desk.next()
                    desk.tell(end - (end - start).over(parts))

    def test_texts_that_grow_long(self):
        scale = Scale([Ratio(k * 10 ** 49 + k, 10 ** 48 + 2 * k + 1) for k in range(8)])
        desk = Desk(scale)
        for parts in (3, 7, 11, 13):
            start, end = desk.next()
            desk.tell(start + (end - start).over(parts))
        desk.name("far", desk.ends()[0])
        self.assertGreater(len(desk.text()), 3000)
        self.assertEqual(read_desk(desk.text()).text(), desk.text())

    def test_near_misses(self):
        near = [
            "", "\n", "means", "0 1 3", "0 1 3\n", "0 1 3\nmeans\n", "\n0 1 3\nmeans", "0 1 3\n\nmeans", "0 1 3 \nmeans",
            " 0 1 3\nmeans", "0  1 3\nmeans", "0 1 3\nmeans ", "0 1 3\n means", "0 1 3\nmeans  1", "0 1 3\nMeans", "0 1 3\nmean",
            "0 1 3\nmeans1", "0 1 3\n1", "3 1 0\nmeans", "0 1 1\nmeans", "0 1 2/2\nmeans", "0 1 03\nmeans", "0 +1 3\nmeans",
            "0 1 2 3 4 5 6 7 8\nmeans", "\nmeans", "a\nmeans", "0 1 3\nmeans 4", "0 1 3\nmeans -1", "0 1 3\nmeans 1 1/2",
            "0 1 3\nmeans 1 4", "0 1 3\nmeans 1 2 4", "0\nmeans 0", "0 1 3\nmeans 2/2", "0 1 3\nmeans 1.0", "0 1 3\nmeans x",
            "0 1 2 3 4 5 6\nmeans 0 0 0 0 0", "0 1 3\nmeans\na", "0 1 3\nmeans\na 1 2", "0 1 3\nmeans\na 1 2 3 4",
            "0 1 3\nmeans\na 1 2 3\n", "0 1 3\nmeans\nb 1 2 3\na 1 2 3", "0 1 3\nmeans\na 1 2 3\na 1 2 3",
            "0 1 3\nmeans\na 1 2 3\na 3 2 1", "0 1 3\nmeans\nA 1 2 3", "0 1 3\nmeans\nabcdefghi 1 2 3", "0 1 3\nmeans\n 1 2 3",
            "0 1 3\nmeans\n1 2 3", "0 1 3\nmeans\na  1 2 3", "0 1 3\nmeans\na 1 2 3 ", "0 1 3\nmeans\na 1 2 4/2",
            "0 1 3\nmeans\na 1 2 x", "0 1 3\nmeans\na1 1 2 3", "0 1 3\na 1 2 3\nmeans", "0 1 3\na 1 2 3", "0 1 3 means",
            "0 1 3\nmeans\n\na 1 2 3", "0 1 3\nmeans\na 1 2 3\n\nb 1 2 3", "0 1 3\nmeans -0", "0 1 3\nmeans 1/0", "0 1/0\nmeans",
            "0 1 3\nmeans\na 1 2 3,", "0 1 3\tmeans", "0 1 3\r\nmeans", "x" * 2000, "\n" * 2000, " " * 2000, "0 " * 1000,
            "0 1 3\nmeans\n" + "a 1 2 3\n" * 200, "1" * 60 + "\nmeans\na",
        ]
        for text in near:
            self.assert_raises(BadText, {}, read_desk, text)
            self.assert_raises(BadText, {}, read_desk, text=text)

    def test_texts_of_errors_carry_no_other_error_along(self):
        with self.assertRaises(BadText) as caught:
            read_desk("0 1 3\nmeans 9")
        self.assertIsNone(caught.exception.__cause__)
