"""The whole program: the promises that hold of all files [7] [8] [9] [10], and that what they tell fits together."""

import importlib
import inspect

from firstmeans.anycurve import chances, greatest, least, never, surely
from firstmeans.bends import dual, parted
from firstmeans.curves import power, step, summed
from firstmeans.desk import Desk, read_desk
from firstmeans.errors import MeansError, NoFit, NoLot
from firstmeans.extremes import high, is_high, is_low, low
from firstmeans.kinds import all_under, both, greatest_rise, least_rise
from firstmeans.known import bar, corners, has, is_bar, is_sole
from firstmeans.nexts import at_next, greatest_line, least_line, next_for, next_range
from firstmeans.ranks import stands_under, weights
from firstmeans.ratios import Ratio, read_ratio, total
from firstmeans.scales import Scale, mean, means_of
from firstmeans.sums import added, added_means, finer, finer_lot, led_lot, mixture
from firstmeans.toldback import clash, covers, fitting, is_clash, lot_of_covers, needless, sure_bounds
from tests import helpers
from tests.helpers import Case, half, means_that_lots_have, means_that_no_lot_has, odd_values, texts, trio
from tests.test_form import FUNCTIONS

QUARTET = Scale([0, 1, 2, 4])
LOT = [half(1), 0, Ratio(1, 4), Ratio(1, 4)]
FACTS = [("at most", [0, 1, 2, 4], 2), ("is", [1, 0, 0, 1], half(1))]
# Arguments that are right for each function of the interface.
SAMPLES = {
    "as_ratio": [3], "read_ratio": ["-2/5"], "total": [[1, half(1)]],
    "is_lot": [QUARTET, LOT], "is_curve": [QUARTET, [1, 2, 3, half(1)]], "mean": [QUARTET, LOT, [1, 2, 3, 4]],
    "means_of": [QUARTET, LOT, 3], "uses": [QUARTET, LOT],
    "power": [QUARTET, 2], "cover": [QUARTET, 1], "cap": [QUARTET, half(3)], "step": [QUARTET, 2],
    "summed": [[[1, 2], [3, half(1)]], [2, -1]],
    "divided": [QUARTET, [1, 0, 5, 2], [0, 2, 3]], "bends_up": [QUARTET, [1, 0, 5, 2], 2],
    "bends_down": [QUARTET, [1, 0, 5, 2], 1], "orders_up": [QUARTET, [0, 1, 4, 16]],
    "orders_down": [QUARTET, [0, 1, 4, 16]], "stencil": [QUARTET, 1, 2], "dual": [QUARTET, 0, 3],
    "through": [QUARTET, [0, 2], [1, 5]], "curve_of": [QUARTET, [1, half(1), 2]], "lies_under": [[1, 2], [1, half(5)]],
    "parted": [QUARTET, [1, 0, 5, 2], 2], "put_together": [QUARTET, 2, [1, 2], [half(1), 0]],
    "mean_by": [QUARTET, [1, 2], [1, half(1)]], "has": [QUARTET, [half(3)], LOT], "some_lot": [QUARTET, [half(3)]],
    "bar": [QUARTET, [5]], "is_bar": [QUARTET, [5], [4, -1]], "corners": [QUARTET, [half(3)]], "edge": [QUARTET, [0]],
    "is_edge": [QUARTET, [0], [0, 1]], "is_sole": [QUARTET, [0]],
    "low": [QUARTET, [half(3)]], "high": [QUARTET, [half(3)]], "is_low": [QUARTET, [half(3)], [0, half(1), half(1), 0]],
    "is_high": [QUARTET, [half(3)], [0, half(1), half(1), 0]], "bounds": [QUARTET, [half(3)], [0, 1, 4, 16]],
    "under": [QUARTET, [half(3)], [0, 1, 4, 16]], "over": [QUARTET, [half(3)], [0, 1, 4, 16]],
    "is_under": [QUARTET, [half(3)], [0, 1, 4, 16], [-2, 3]], "is_over": [QUARTET, [half(3)], [0, 1, 4, 16], [0, 4]],
    "low_forms": [QUARTET, 2], "high_forms": [QUARTET, 2],
    "weights": [QUARTET, [0, 1, 0, 0], LOT, 1], "stands_under": [QUARTET, [0, 1, 0, 0], LOT, 1],
    "parting": [QUARTET, [0, 1, 0, 0], LOT, 1], "is_parting": [QUARTET, [0, 1, 0, 0], LOT, 1, [0, 1, 1, 1]],
    "first_apart": [QUARTET, [0, 1, 0, 0], LOT], "crossings": [QUARTET, [0, 1, 0, 0], LOT],
    "least": [QUARTET, [half(3)], [0, 3, 0, 0]], "greatest": [QUARTET, [half(3)], [0, 3, 0, 0]],
    "is_least": [QUARTET, [half(3)], [0, 3, 0, 0], (0, [Ratio(5, 8), 0, 0, Ratio(3, 8)], [0])],
    "is_greatest": [QUARTET, [half(3)], [0, 3, 0, 0], (half(5), [0, Ratio(5, 6), 0, Ratio(1, 6)], [4, -1])],
    "chances": [QUARTET, [half(3)], [1, 3]], "surely": [QUARTET, [3]], "never": [QUARTET, [0]],
    "by_ends": [QUARTET, [half(3)], [0, 3, 0, 0]],
    "next_range": [QUARTET, [half(3)]], "least_line": [QUARTET, [1], [0, 3, 0, 0]],
    "greatest_line": [QUARTET, [1], [0, 3, 0, 0]], "at_next": [QUARTET, [1], [0, 3, 0, 0], 2],
    "next_for": [QUARTET, [1], [0, 3, 0, 0], 1],
    "mixture": [QUARTET, [LOT, [0, 1, 0, 0]], [half(1), half(1)]], "added": [Scale([0, 1]), [half(1), half(1)], trio(), [1, 0, 0]],
    "added_means": [[1, 2], [3, half(1)]], "led_lot": [QUARTET, LOT, -2, 1], "finer": [QUARTET, [3, half(1)]],
    "finer_lot": [QUARTET, [3, half(1)], LOT],
    "covers": [QUARTET, LOT], "lot_of_covers": [QUARTET, [2, half(3), 1, 0]], "fault": [QUARTET, [2, half(3), 0, 0]],
    "claims": [QUARTET, FACTS], "fitting": [QUARTET, FACTS], "clash": [QUARTET, [*FACTS, ("is", [1, 1, 1, 1], 2)]],
    "is_clash": [QUARTET, [*FACTS, ("is", [1, 1, 1, 1], 2)], [0, 0, 0, 0, 1]],
    "sure_bounds": [QUARTET, FACTS, [0, 1, 0, 0]], "needless": [QUARTET, FACTS],
    "all_under": [QUARTET, [1], [2], 1], "against": [QUARTET, [1], [2], 1],
    "is_against": [QUARTET, [1], [2], 1, ([Ratio(3, 4), 0, 0, Ratio(1, 4)], [0, 0, 1, 0], [0, 0, 0, 1])],
    "least_rise": [QUARTET, [1], [2], [0, 1, 0, 0]], "greatest_rise": [QUARTET, [1], [2], [0, 1, 0, 0]],
    "both": [QUARTET, [1, 3], [2], half(1)], "read_desk": ["0 1\nmeans"],
}
# The arguments where integers are asked for, so that no Ratio may stand there.
INTEGERS = ("count", "exponent", "order", "place", "places")


def interface():
    """Rows of a name, the function, and arguments that are right for it."""
    rows = []
    for module, names in FUNCTIONS.items():
        for name in names:
            rows.append((name, getattr(importlib.import_module("firstmeans." + module), name), SAMPLES[name]))
    return rows


def shown(value):
    """A text of any answer of the package."""
    if isinstance(value, Scale):
        return value.text()
    if isinstance(value, Desk):
        return value.text()
    if isinstance(value, (list, tuple)):
        return type(value).__name__, [shown(item) for item in value]
    return helpers.repr_of(value)


def as_tuples(value):
    return tuple(as_tuples(item) for item in value) if isinstance(value, (list, tuple)) else value


def as_ratios(value):
    """The same with a Ratio for each integer."""
    if isinstance(value, (list, tuple)):
        return type(value)(as_ratios(item) for item in value)
    return Ratio(value) if type(value) is int else value


def kinds_within(value):
    """The kinds of all that is not a list or a tuple within an answer."""
    if isinstance(value, (list, tuple)):
        return set().union(*[kinds_within(item) for item in value])
    return {type(value)}


class Arguments(Case):
    def test_each_function_has_its_row(self):
        self.assertEqual(set(SAMPLES), {name for names in FUNCTIONS.values() for name in names})

    def test_by_position_and_by_names_in_any_order(self):
        for name, call, values in interface():
            names = list(inspect.signature(call).parameters)
            told = shown(call(*values))
            for order in (names, names[::-1], names[1:] + names[:1]):
                self.assertEqual(shown(call(**{key: values[names.index(key)] for key in order})), told, name)
            self.assertEqual(shown(call(values[0], **dict(list(zip(names, values))[:0:-1]))), told, name)

    def test_tuples_and_ratios_in_the_place_of_lists_and_integers(self):
        for name, call, values in interface():
            names = list(inspect.signature(call).parameters)
            told = shown(call(*values))
            self.assertEqual(shown(call(*[as_tuples(value) for value in values])), told, name)
            ratios = [value if key in INTEGERS else as_ratios(value) for key, value in zip(names, values)]
            self.assertEqual(shown(call(*ratios)), told, name)
            self.assertEqual(shown(call(*[as_tuples(value) for value in ratios])), told, name)

    def test_nothing_is_changed_and_all_is_new(self):
        for name, call, values in interface():
            before = shown(values)
            first = call(*values)
            told = shown(first)
            helpers.spoil(first)
            self.assertEqual(shown(values), before, name)
            self.assertEqual(shown(call(*values)), told, name)

    def test_numbers_are_ratios_but_places_orders_and_counts(self):
        integers = "uses orders_up orders_down low_forms high_forms surely never crossings first_apart needless fault".split()
        for name, call, values in interface():
            kinds = kinds_within(call(*values)) - {bool, Scale, Desk, type(None)}
            self.assertLessEqual(kinds, {int} if name in integers else {Ratio}, name)

    def test_odd_values_raise_errors_of_the_package(self):
        # No error is told of these, or it does not name the argument itself.
        free = ("scale", "other_scale", "text", "value", "facts", "curves")
        for name, call, values in interface():
            names = list(inspect.signature(call).parameters)
            for at, key in enumerate(names):
                if key in free or name == "total":
                    continue
                for odd in odd_values():
                    given = [*values[:at], odd, *values[at + 1:]]
                    with self.assertRaises(MeansError, msg=(name, key, odd)) as caught:
                        call(*given)
                    self.assertIs(caught.exception.given, odd)

    def test_judging_raises_nothing(self):
        for name, call, values in interface():
            if name.startswith("is_") and "value" in inspect.signature(call).parameters:
                for odd in helpers.strange_values() + odd_values():
                    self.assertIs(call(*values[:-1], odd), False, name)


class Together(Case):
    def test_more_means_tell_more(self):
        for scale in helpers.scales()[3:]:
            for lot in helpers.lots(scale)[::3]:
                for curve in helpers.curves(scale)[3:6]:
                    last = None
                    for d in range(min(5, len(scale))):
                        means = means_of(scale, lot, d)
                        span = least(scale, means, curve)[0], greatest(scale, means, curve)[0]
                        self.assertTrue(span[0] <= mean(scale, lot, curve) and mean(scale, lot, curve) <= span[1])
                        if last is not None:
                            self.assertTrue(last[0] <= span[0] and span[1] <= last[1])
                        last = span

    def test_sole_lots(self):
        for scale in helpers.scales():
            for means, lot in means_that_lots_have(scale)[::2]:
                sole = is_sole(scale, means)
                self.assertIs(low(scale, means) == high(scale, means), sole)
                self.assertIs(len(corners(scale, means)) == 1, sole)
                start, end = next_range(scale, means)
                self.assertIs(start == end, sole)
                if sole:
                    self.assertEqual(low(scale, means), lot)
                    self.assertEqual(sorted(surely(scale, means) + never(scale, means)), list(range(len(scale))))

    def test_a_bar_or_a_clash_or_a_lot(self):
        for scale in helpers.scales()[1:]:
            for means in [known for known, _ in means_that_lots_have(scale)[::6]] + means_that_no_lot_has(scale)[::3]:
                facts = [("is", power(scale, k + 1), number) for k, number in enumerate(means)]
                told = bar(scale, means)
                if told is None:
                    lot = fitting(scale, facts)
                    self.assertIs(has(scale, means, lot), True)
                    self.assertIsNone(clash(scale, facts))
                    continue
                self.assertIs(is_bar(scale, means, told), True)
                with self.assertRaises(NoLot) as caught:
                    low(scale, means)
                self.assertEqual(caught.exception.bar, told)
                with self.assertRaises(NoFit) as caught:
                    needless(scale, facts)
                self.assertEqual(caught.exception.clash, clash(scale, facts))
                self.assertIs(is_clash(scale, facts, caught.exception.clash), True)

    def test_led_scales(self):
        for scale in helpers.scales()[1:]:
            for means, lot in means_that_lots_have(scale)[::6]:
                order = len(means) + 1
                for factor, add in ((2, -1), (half(-3), Ratio(1, 3))):
                    led, moved = led_lot(scale, lot, factor, add)
                    known = means_of(led, moved, len(means))
                    turned = factor != 2
                    swapped = turned and order % 2 == 1
                    ends = low(scale, means), high(scale, means)
                    one, other = [led_lot(scale, end, factor, add)[1] for end in ends]
                    self.assertIs(is_low(led, known, other if swapped else one), True)
                    self.assertIs(is_high(led, known, one if swapped else other), True)
                    for curve in helpers.curves(scale)[3:5]:
                        bent = curve[::-1] if turned else curve
                        self.assertEqual(least(led, known, bent)[0], least(scale, means, curve)[0])
                        self.assertEqual(greatest(led, known, bent)[0], greatest(scale, means, curve)[0])

    def test_finer_scales(self):
        for scale in helpers.scales()[:-1]:
            for means, lot in means_that_lots_have(scale)[::6]:
                values = [Ratio(1, 7), 100][:8 - len(scale)]
                wider, same = finer(scale, values), finer_lot(scale, values, lot)
                self.assertIs(has(wider, means, same), True)
                for exponent in range(6):
                    wanted = mean(scale, lot, power(scale, exponent))
                    self.assertEqual(mean(wider, same, power(wider, exponent)), wanted)
                    self.assertTrue(least(wider, means, power(wider, exponent))[0] <= wanted)
                    self.assertTrue(wanted <= greatest(wider, means, power(wider, exponent))[0])

    def test_mixtures_of_the_two_ends(self):
        for scale in helpers.scales()[2:]:
            for means, _ in means_that_lots_have(scale)[::5]:
                order = len(means) + 1
                one, other = low(scale, means), high(scale, means)
                mixed = mixture(scale, [one, other], [Ratio(2, 3), Ratio(1, 3)])
                self.assertIs(has(scale, means, mixed), True)
                start, end = next_range(scale, means)
                self.assertEqual(mean(scale, mixed, power(scale, order)), start + (end - start) * Ratio(1, 3))
                self.assertEqual(both(scale, means, means, Ratio(1, 3)), [number for number in means])
                if order < len(scale):
                    self.assertIs(stands_under(scale, one, mixed, order), True)
                    self.assertIs(stands_under(scale, mixed, other, order), True)

    def test_weights_and_parted_curves(self):
        # The mean of a curve rises by the weights of the lots times those of the curve.
        for scale in helpers.scales()[2:]:
            for means, _ in means_that_lots_have(scale)[::5]:
                order = len(means) + 1
                if order == len(scale):
                    continue
                one, other = low(scale, means), high(scale, means)
                told = weights(scale, one, other, order)
                for curve in helpers.curves(scale)[3:6]:
                    _, bends = parted(scale, curve, order)
                    wanted = total([weight * bend for weight, bend in zip(told, bends)])
                    self.assertEqual(mean(scale, other, curve) - mean(scale, one, curve), wanted)
                for place, weight in enumerate(told):
                    bend = dual(scale, place, order)
                    self.assertEqual(least_rise(scale, means, means, bend), -greatest_rise(scale, means, means, bend))
                    self.assertEqual(greatest_rise(scale, means, means, bend), weight)

    def test_the_next_mean_and_what_it_tells(self):
        for scale in helpers.scales()[2:]:
            for means, _ in means_that_lots_have(scale, 3)[::7]:
                start, end = next_range(scale, means)
                for curve in helpers.curves(scale)[3:5]:
                    lower, upper = least_line(scale, means, curve), greatest_line(scale, means, curve)
                    span = least(scale, means, curve)[0], greatest(scale, means, curve)[0]
                    self.assertIn(span[0], [height for _, height in lower])
                    self.assertIn(span[1], [height for _, height in upper])
                    self.assertEqual(next_for(scale, means, curve, span[1]), (start, end))
                    self.assertIsNone(next_for(scale, means, curve, span[0] - 1))
                    self.assertEqual(at_next(scale, means, curve, start), (lower[0][1], upper[0][1]))
                    self.assertEqual(at_next(scale, means, curve, end), (lower[-1][1], upper[-1][1]))
                if len(means) + 1 < len(scale):
                    self.assertIs(all_under(scale, [*means, start], [*means, end], len(means) + 1), True)
                    self.assertIs(all_under(scale, [*means, start], means, len(means) + 1), True)
                    self.assertIs(all_under(scale, means, [*means, end], len(means) + 1), True)

    def test_chances_are_steps(self):
        for scale in helpers.scales():
            for means, _ in means_that_lots_have(scale)[::6]:
                for place, mark in enumerate(scale.marks()):
                    curve = step(scale, mark)
                    told = chances(scale, means, list(range(place, len(scale))))
                    self.assertEqual(told, (least(scale, means, curve)[0], greatest(scale, means, curve)[0]))

    def test_sums_and_covers(self):
        one, other = trio(), Scale([-1, half(1)])
        for lot in helpers.lots(one):
            for further in helpers.lots(other):
                joint, shares = added(one, lot, other, further)
                self.assertEqual(means_of(joint, shares, 4), added_means(means_of(one, lot, 4), means_of(other, further, 4)))
                self.assertEqual(lot_of_covers(joint, covers(joint, shares)), shares)

    def test_mixed_curves(self):
        for scale in helpers.scales():
            for lot in helpers.lots(scale)[::3]:
                curves = helpers.curves(scale)[3:6]
                mixed = summed(curves, [2, half(-1), 3])
                wanted = total([mean(scale, lot, curve) * part for curve, part in zip(curves, [2, half(-1), 3])])
                self.assertEqual(mean(scale, lot, mixed), wanted)
                facts = [("is", curve, mean(scale, lot, curve)) for curve in curves]
                self.assertEqual(sure_bounds(scale, facts, mixed), (wanted, wanted))
                self.assertIn(3, needless(scale, [*facts, ("is", mixed, wanted)]))

    def test_a_desk_tells_the_same(self):
        desk = Desk(Scale([0, 1, 2, 4, 7]))
        desk.name("bent", [0, 3, 0, 0, 5])
        desk.name("flat", [2, 2, 2, 2, 2])
        for number in (2, 8):
            desk.tell(number)
            scale, means, curve = desk.scale(), desk.means(), desk.curve("bent")
            facts = [("is", power(scale, k + 1), known) for k, known in enumerate(means)]
            self.assertEqual(desk.bounds("bent"), sure_bounds(scale, facts, curve))
            self.assertEqual(desk.line("bent"), least_line(scale, means, curve))
            self.assertEqual(desk.ends(), (low(scale, means), high(scale, means)))
            self.assertEqual(desk.next(), next_range(scale, means))
            self.assertEqual(read_desk(desk.text()).bounds("bent"), desk.bounds("bent"))


class FarNumbers(Case):
    """Numbers at the limit, and what comes of them, which may be passed again."""

    def test_numbers_of_fifty_digits(self):
        big = 10 ** 50 - 1
        scale = Scale([Ratio(-big, 7), Ratio(-1, big), Ratio(3, big - 2), Ratio(big, big - 4), big])
        parts = [big, 1, big - 5, 7, 3]
        lot = [Ratio(part, sum(parts)) for part in parts]
        means = means_of(scale, lot, 3)
        curve = [Ratio(big, 3), -big, Ratio(1, big), 0, Ratio(big - 2, big)]
        bottom, top = least(scale, means, curve), greatest(scale, means, curve)
        self.assertTrue(bottom[0] <= mean(scale, lot, curve) and mean(scale, lot, curve) <= top[0])
        for number in (bottom[0], top[0], *low(scale, means), *means):
            self.assertEqual(read_ratio(number.text()), number)
        start, end = next_range(scale, means)
        middle = (start + end).over(2)
        line = at_next(scale, means, curve, middle)
        self.assertTrue(bottom[0] <= line[0] and line[0] <= line[1] and line[1] <= top[0])
        again = means_of(scale, bottom[1], 4)
        self.assertEqual(again[:3], means)
        self.assertIs(has(scale, again, bottom[1]), True)
        facts = [("is", power(scale, k + 1), number) for k, number in enumerate(means)]
        self.assertEqual(sure_bounds(scale, facts, curve), (bottom[0], top[0]))

    def test_texts_of_what_comes_of_them(self):
        self.assertEqual(texts([Ratio(10 ** 5000)])[0], "1" + "0" * 5000)
