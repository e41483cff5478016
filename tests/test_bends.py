"""Divided differences [5] [20], orders [21], stencils and duals [22], polynomials [6] [23], parted curves [24]."""

from itertools import combinations

from firstmeans import bends, errors, ratios, scales
from firstmeans.bends import (
    bends_down, bends_up, curve_of, divided, dual, lies_under, orders_down, orders_up, parted, put_together, stencil,
    through,
)
from firstmeans.errors import BadCurve, BadNumbers, BadOrder, BadPlace, BadPlaces, BadPolynomial, BadWeights
from firstmeans.ratios import Ratio
from firstmeans.scales import Scale
from tests import helpers
from tests.helpers import Case, half, odd_values, texts, trio, wrong_curves, wrong_lists, wrong_orders, wrong_places
from tests.plain import at_marks, plain, plains, slope, slopes

EXAMPLES = """
    >>> scale = Scale([0, 1, 3])
    >>> divided(scale, [0, 1, 9], [0, 1, 2]).text(), orders_up(scale, [0, 1, 9]), bends_down(scale, [0, 1, 9], 1)
    ('1', [1, 2], False)
    >>> [number.text() for number in stencil(scale, 0, 2)], [number.text() for number in dual(scale, 0, 2)]
    (['1/3', '-1/2', '1/6'], ['0', '0', '6'])
    >>> polynomial, loads = parted(scale, [1, 1, 7], 2)
    >>> [number.text() for number in polynomial], [number.text() for number in loads], [number.text() for number in put_together(scale, 2, polynomial, loads)]
    (['1', '0'], ['1'], ['1', '1', '7'])
    >>> stencil(scale, 1, 2)
    raises BadPlace(1)
"""

POLYNOMIALS = [
    [0], [half(-3)], [1, 2], (0, 0), [0, 0, 1], [5, half(1), 0, 0], (1, -1, 1, -1, Ratio(1, 3)), [0] * 8,
    [1, 2, 3, 4, 5, 6, 7, 8], [half(1), 0, 0, -2, 0, 0, 1, 0],
]


def eight():
    return Scale([-5, -2, half(-1), 0, Ratio(1, 3), 1, 4, 9])


class Divided(Case):
    def test_examples(self):
        self.run_examples(EXAMPLES, {**vars(errors), **vars(ratios), **vars(scales), **vars(bends)})

    def test_some(self):
        self.assert_ratio(divided(trio(), [4, 5, 6], [1]), 5)
        self.assert_ratio(divided(trio(), [4, 5, 6], [0, 1]), 1)
        self.assert_ratio(divided(trio(), [4, 5, 6], [1, 2]), 1, 2)
        self.assert_ratio(divided(trio(), [4, 5, 6], [0, 2]), 2, 3)
        self.assert_ratio(divided(trio(), (4, 5, 6), (0, 1, 2)), -1, 6)
        self.assert_ratio(divided(places=[0], curve=[half(3)], scale=Scale([9])), 3, 2)

    def test_all_places_word_by_word(self):
        for scale in helpers.scales():
            size = len(scale)
            marks = plains(scale.marks())
            for curve in helpers.curves(scale)[:8]:
                numbers = plains(curve)
                for count in range(1, size + 1):
                    for places in combinations(range(size), count):
                        told = divided(scale, curve, list(places))
                        wanted = slope([marks[at] for at in places], [numbers[at] for at in places])
                        self.assert_ratio(told, wanted.numerator, wanted.denominator)

    def test_wrong_curves(self):
        for curve in wrong_curves():
            self.assert_bad(BadCurve, curve, divided, trio(), curve, [0])
            self.assert_bad(BadCurve, curve, divided, places=None, curve=curve, scale=trio())

    def test_wrong_places(self):
        for places in wrong_places(3):
            self.assert_bad(BadPlaces, places, divided, trio(), [1, 2, 3], places)
            self.assert_bad(BadPlaces, places, divided, places=places, curve=(1, 2, 3), scale=trio())
        for places in wrong_places(8):
            self.assert_bad(BadPlaces, places, divided, eight(), [0] * 8, places)
        for places in ([1], [0, 1], [-1], []):
            self.assert_bad(BadPlaces, places, divided, Scale([3]), [0], places)


class Orders(Case):
    def test_orders_beyond_the_values_and_orders_below(self):
        for scale in helpers.scales():
            for curve in helpers.curves(scale):
                for order in range(1, 10):
                    found = slopes(scale, curve, order)
                    self.assertIs(bends_up(scale, curve, order), all(number >= 0 for number in found))
                    self.assertIs(bends_down(scale, curve, order), all(number <= 0 for number in found))
                orders = list(range(1, len(scale)))
                up = [order for order in orders if min(slopes(scale, curve, order)) >= 0]
                down = [order for order in orders if max(slopes(scale, curve, order)) <= 0]
                self.assert_places(orders_up(scale, curve), up)
                self.assert_places(orders_down(scale, curve), down)

    def test_up_down_both_and_neither(self):
        orders = (1, 2, 3, 10 ** 50)
        self.assertEqual([bends_up(trio(), [0, 1, 9], order) for order in orders], [True] * 4)
        self.assertEqual([bends_down(trio(), [0, 1, 9], order) for order in orders], [False, False, True, True])
        self.assertEqual((bends_up(trio(), (2, 2, 2), 1), bends_down(trio(), (2, 2, 2), 1)), (True, True))
        self.assertEqual((bends_up(trio(), [0, 1, 0], 1), bends_down(trio(), [0, 1, 0], 1)), (False, False))
        self.assertEqual((bends_up(trio(), [0, 1, 0], 2), bends_down(trio(), [0, 1, 0], 2)), (False, True))
        self.assertIs(bends_up(order=1, curve=[half(1), 1, 2], scale=trio()), True)
        self.assertIs(bends_down(order=1, curve=[half(1), 1, 2], scale=trio()), False)

    def test_a_line_on_unlike_steps_bends_both_ways(self):
        self.assertEqual((orders_up(trio(), [0, 1, 3]), orders_down(trio(), [0, 1, 3])), ([1, 2], [2]))
        self.assertEqual((orders_up(trio(), [0, 1, 2]), orders_down(trio(), [0, 1, 2])), ([1], [2]))

    def test_one_value_has_no_orders(self):
        self.assert_places(orders_up(scale=Scale([5]), curve=[-1]), [])
        self.assert_places(orders_down(scale=Scale([5]), curve=[-1]), [])
        self.assertEqual((bends_up(Scale([5]), [-1], 1), bends_down(Scale([5]), [-1], 1)), (True, True))

    def test_all_places_if_the_neighbouring_ones(self):
        for scale in helpers.scales():
            for curve in helpers.curves(scale)[::2]:
                for order in orders_up(scale, curve):
                    for places in combinations(range(len(scale)), order + 1):
                        self.assertGreaterEqual(plain(divided(scale, curve, places)), 0)

    def test_wrong_curves(self):
        for curve in wrong_curves():
            self.assert_bad(BadCurve, curve, bends_up, trio(), curve, 1)
            self.assert_bad(BadCurve, curve, bends_down, trio(), curve, 1)
            self.assert_bad(BadCurve, curve, bends_up, order=0, curve=curve, scale=trio())
            self.assert_bad(BadCurve, curve, bends_down, order=None, curve=curve, scale=trio())
            self.assert_bad(BadCurve, curve, orders_up, trio(), curve)
            self.assert_bad(BadCurve, curve, orders_down, trio(), curve)
            self.assert_bad(BadCurve, curve, orders_up, curve=curve, scale=trio())
            self.assert_bad(BadCurve, curve, orders_down, curve=curve, scale=trio())
        for curve in odd_values() + [[], [1, 2], (), 5]:
            for call in (orders_up, orders_down):
                self.assert_bad(BadCurve, curve, call, Scale([5]), curve)
            for call in (bends_up, bends_down):
                self.assert_bad(BadCurve, curve, call, Scale([5]), curve, 1)
                self.assert_bad(BadCurve, curve, call, Scale([5]), curve, 0)

    def test_wrong_orders(self):
        for order in odd_values() + [0, -1, -(10 ** 50), Ratio(1), half(1), Ratio(5), [1], (1,), "2"]:
            self.assert_bad(BadOrder, order, bends_up, trio(), [1, 2, 3], order)
            self.assert_bad(BadOrder, order, bends_down, trio(), [1, 2, 3], order)
            self.assert_bad(BadOrder, order, bends_up, order=order, curve=(1, 2, 3), scale=trio())
            self.assert_bad(BadOrder, order, bends_down, order=order, curve=(1, 2, 3), scale=trio())


class StencilsAndDuals(Case):
    def test_some(self):
        self.assert_ratios(stencil(trio(), 1, 1), "0 -1/2 1/2")
        self.assert_ratios(dual(trio(), 1, 1), "0 0 2")
        self.assert_ratios(dual(trio(), 0, 1), "0 1 1")
        self.assert_ratios(stencil(order=1, place=0, scale=Scale([-2, half(-1)])), "-2/3 2/3")
        self.assert_ratios(dual(order=1, place=0, scale=Scale([-2, half(-1)])), "0 3/2")

    def test_stencils_tell_divided_differences(self):
        for scale in helpers.scales():
            size = len(scale)
            for order in range(1, size):
                for place in range(size - order):
                    numbers = stencil(scale, place, order)
                    self.assert_ratios(numbers, " ".join(texts(numbers)))
                    self.assertEqual(len(numbers), size)
                    window = list(range(place, place + order + 1))
                    self.assertEqual([at for at in range(size) if not numbers[at] == 0], window)
                    for curve in helpers.curves(scale)[:8]:
                        sums = sum(part * number for part, number in zip(plains(numbers), plains(curve)))
                        self.assertEqual(sums, plain(divided(scale, curve, window)))

    def test_duals_bend_at_one_place_only(self):
        for scale in helpers.scales():
            size = len(scale)
            for order in range(1, size):
                for place in range(size - order):
                    curve = dual(scale, place, order)
                    self.assert_ratios(curve, " ".join(texts(curve)))
                    self.assertEqual(len(curve), size)
                    self.assertTrue(all(number == 0 for number in curve[:place + order]))
                    self.assertEqual(slopes(scale, curve, order), [int(at == place) for at in range(size - order)])

    def test_wrong_orders(self):
        for scale in (trio(), eight()):
            for order in wrong_orders(len(scale) - 1):
                self.assert_bad(BadOrder, order, stencil, scale, 0, order)
                self.assert_bad(BadOrder, order, dual, scale, 0, order)
                self.assert_bad(BadOrder, order, stencil, order=order, place=None, scale=scale)
                self.assert_bad(BadOrder, order, dual, order=order, place=-1, scale=scale)
        self.assert_bad(BadOrder, 1, stencil, Scale([4]), 0, 1)
        self.assert_bad(BadOrder, 1, dual, Scale([4]), 0, 1)

    def test_the_last_place_and_those_behind_it(self):
        for scale in helpers.scales():
            for order in range(1, len(scale)):
                last = len(scale) - 1 - order
                self.assertFalse(stencil(scale, last, order)[-1] == 0)
                self.assertFalse(dual(scale, last, order)[-1] == 0)
                for place in (last + 1, last + 2, len(scale), 10 ** 50, -1, -2, -len(scale)):
                    self.assert_bad(BadPlace, place, stencil, scale, place, order)
                    self.assert_bad(BadPlace, place, dual, scale, place, order)

    def test_wrong_places(self):
        for place in odd_values() + [Ratio(0), Ratio(1), half(1), [0], (0,), -1, -(10 ** 50), 3, 4]:
            self.assert_bad(BadPlace, place, stencil, trio(), place, 1)
            self.assert_bad(BadPlace, place, dual, trio(), place, 1)
            self.assert_bad(BadPlace, place, stencil, order=2, place=place, scale=trio())
            self.assert_bad(BadPlace, place, dual, order=2, place=place, scale=trio())


class Polynomials(Case):
    def test_through_some(self):
        self.assert_ratios(through(trio(), [0], [half(5)]), "5/2")
        self.assert_ratios(through(trio(), [1, 2], [1, 2]), "1/2 1/2")
        self.assert_ratios(through(trio(), (0, 2), (0, Ratio(9))), "0 3")
        self.assert_ratios(through(trio(), [0, 1, 2], [0, 1, 9]), "0 0 1")
        self.assert_ratios(through(trio(), [0, 1, 2], [4, 4, 4]), "4 0 0")
        self.assert_ratios(through(numbers=[7], places=[0], scale=Scale([-1])), "7")

    def test_through_any_places(self):
        for scale in helpers.scales():
            size = len(scale)
            for curve in helpers.curves(scale)[:6]:
                for count in range(1, size + 1):
                    for places in combinations(range(size), count):
                        told = through(scale, places, [curve[place] for place in places])
                        self.assert_ratios(told, " ".join(texts(told)))
                        self.assertEqual(len(told), count)
                        numbers = at_marks(scale, told)
                        wanted = [plain(curve[place]) for place in places]
                        self.assertEqual([numbers[place] for place in places], wanted)

    def test_through_wrong_places(self):
        for places in wrong_places(3):
            self.assert_bad(BadPlaces, places, through, trio(), places, [1])
            self.assert_bad(BadPlaces, places, through, numbers=None, places=places, scale=trio())

    def test_through_wrong_numbers(self):
        for numbers in wrong_lists(2, 2) + [[], (), [1], [1, 2, 3]]:
            self.assert_bad(BadNumbers, numbers, through, trio(), [0, 2], numbers)
            self.assert_bad(BadNumbers, numbers, through, numbers=numbers, places=(1, 2), scale=trio())

    def test_curves_of_polynomials(self):
        self.assert_ratios(curve_of(trio(), [half(1)]), "1/2 1/2 1/2")
        self.assert_ratios(curve_of(trio(), (1, -1, 2)), "1 2 16")
        self.assert_ratios(curve_of(polynomial=[0, 0, 0, 0, 0, 0, 0, 1], scale=trio()), "0 1 2187")
        for scale in helpers.scales():
            for polynomial in POLYNOMIALS:
                told = curve_of(scale, polynomial)
                self.assert_ratios(told, " ".join(texts(told)))
                self.assertEqual(plains(told), at_marks(scale, polynomial))

    def test_zeros_at_the_end_do_not_matter(self):
        for polynomial in ([1, 2], [half(1)], [0, 0, 3]):
            for count in range(9 - len(polynomial)):
                self.assertEqual(curve_of(eight(), polynomial + [0] * count), curve_of(eight(), polynomial))

    def test_wrong_polynomials(self):
        for value in wrong_lists(8) + [[], (), [0] * 9, [1] * 20]:
            self.assert_bad(BadPolynomial, value, curve_of, trio(), value)
            self.assert_bad(BadPolynomial, value, curve_of, polynomial=value, scale=trio())

    def test_lies_under(self):
        self.assertIs(lies_under([1, 2], [1, 2]), True)
        self.assertIs(lies_under((0, half(1)), [Ratio(1, 3), 1]), True)
        self.assertIs(lies_under([1, 2], [2, 1]), False)
        self.assertIs(lies_under([2, 1], [1, 2]), False)
        self.assertIs(lies_under([half(3)], (Ratio(3, 2),)), True)
        self.assertIs(lies_under(other=[1], one=[2]), False)
        self.assertIs(lies_under([0] * 12, [0] * 11 + [-1]), False)
        self.assertIs(lies_under([0] * 12, [0] * 11 + [1]), True)
        self.assertIs(lies_under([-1, 10 ** 50], [Ratio(-1, 2), 10 ** 50 + 1]), True)

    def test_lies_under_wrong_lists(self):
        for value in odd_values() + [[], (), 1, Ratio(1), "12", [1, None], [True, 1], ["1"], [[1], [2]], {"a": 1}]:
            self.assert_bad(BadCurve, value, lies_under, value, [1, 2])
            self.assert_bad(BadCurve, value, lies_under, one=value, other=None)
            self.assert_bad(BadCurve, value, lies_under, [1, 2], value)
            self.assert_bad(BadCurve, value, lies_under, other=value, one=(1, 2))
        for one, other in [([1, 2], [1]), ([1], (1, 2)), ([1], []), ([1, 2, 3], [1, 2, 3, 4]), ((1,), (1, 2))]:
            self.assert_bad(BadCurve, other, lies_under, one, other)


class Parted(Case):
    def test_parted_by_its_meaning(self):
        for scale in helpers.scales():
            for curve in helpers.curves(scale):
                for order in range(1, len(scale)):
                    told = parted(scale, curve, order)
                    self.assertIs(type(told), tuple)
                    polynomial, weights = told
                    self.assert_ratios(polynomial, " ".join(texts(polynomial)))
                    self.assert_ratios(weights, " ".join(texts(weights)))
                    self.assertEqual(len(polynomial), order)
                    self.assertEqual(at_marks(scale, polynomial)[:order], plains(curve[:order]))
                    self.assertEqual(plains(weights), slopes(scale, curve, order))
                    self.assertEqual(bends_up(scale, curve, order), all(weight >= 0 for weight in plains(weights)))

    def test_put_together_again(self):
        for scale in helpers.scales():
            for curve in helpers.curves(scale):
                for order in range(1, len(scale)):
                    polynomial, weights = parted(scale=scale, curve=tuple(curve), order=order)
                    told = put_together(scale, order, tuple(polynomial), weights)
                    self.assert_ratios(told, " ".join(texts(told)))
                    self.assertEqual(plains(told), plains(curve))

    def test_parted_again(self):
        scale = eight()
        for order in range(1, 8):
            polynomial = [half(3), -1, 0, 2, Ratio(1, 3), 0, 0][:order]
            weights = [0, -2, half(5), 1, 0, 0, 7][:8 - order]
            curve = put_together(weights=weights, polynomial=polynomial, order=order, scale=scale)
            again = parted(scale, curve, order)
            self.assertEqual((plains(again[0]), plains(again[1])), (plains(polynomial), plains(weights)))

    def test_the_sum_of_duals(self):
        for scale in (trio(), eight(), Scale([-2, half(-1)])):
            for order in range(1, len(scale)):
                for place in range(len(scale) - order):
                    weights = [int(at == place) for at in range(len(scale) - order)]
                    self.assertEqual(put_together(scale, order, [0] * order, weights), dual(scale, place, order))

    def test_wrong_curves(self):
        for curve in wrong_curves():
            self.assert_bad(BadCurve, curve, parted, trio(), curve, 1)
            self.assert_bad(BadCurve, curve, parted, order=0, curve=curve, scale=trio())

    def test_wrong_orders(self):
        for scale in (trio(), eight()):
            for order in wrong_orders(len(scale) - 1):
                self.assert_bad(BadOrder, order, parted, scale, [1] * len(scale), order)
                self.assert_bad(BadOrder, order, put_together, scale, order, [1], [1])
                self.assert_bad(BadOrder, order, put_together, weights=0, polynomial=None, order=order, scale=scale)
        self.assert_bad(BadOrder, 1, parted, Scale([4]), [1], 1)
        self.assert_bad(BadOrder, 1, put_together, Scale([4]), 1, [1], [])

    def test_wrong_polynomials(self):
        for value in wrong_lists(2, 2) + [[], (), [1], [1, 2, 3]]:
            self.assert_bad(BadPolynomial, value, put_together, trio(), 2, value, [1])
            self.assert_bad(BadPolynomial, value, put_together, weights=None, polynomial=value, order=2, scale=trio())

    def test_wrong_weights(self):
        for value in wrong_lists(2, 2) + [[], (), [1], [1, 2, 3]]:
            self.assert_bad(BadWeights, value, put_together, trio(), 1, [1], value)
            self.assert_bad(BadWeights, value, put_together, weights=value, polynomial=(1,), order=1, scale=trio())


class NothingChanges(Case):
    def calls(self, curve, places, polynomial, weights):
        scale = trio()
        return [
            lambda: divided(scale, curve, places), lambda: orders_up(scale, curve), lambda: orders_down(scale, curve),
            lambda: bends_up(scale, curve, 2), lambda: bends_down(scale, curve, 2), lambda: stencil(scale, 1, 1),
            lambda: dual(scale, 1, 1), lambda: through(scale, places, weights), lambda: curve_of(scale, polynomial),
            lambda: lies_under(curve, curve), lambda: parted(scale, curve, 1), lambda: parted(scale, curve, 2),
            lambda: put_together(scale, 1, polynomial, weights), lambda: through(scale, [1], polynomial),
        ]

    def test_what_is_passed_is_not_changed(self):
        given = [[3, Ratio(0), half(1)], [0, 2], [Ratio(5)], [1, Ratio(-1)]]
        before = helpers.repr_of(given)
        for call in self.calls(*given):
            call()
            self.assertEqual(helpers.repr_of(given), before)

    def test_what_is_returned_is_new(self):
        given = [[Ratio(3), Ratio(0), half(1)], [0, 2], [Ratio(5)], [Ratio(1), Ratio(-1)]]
        before = helpers.repr_of(given)
        for call in self.calls(*given):
            self.assert_new_lists(call)
            self.assertEqual(helpers.repr_of(given), before)

    def test_equal_arguments_tell_equal_things(self):
        lists = [[3, 0, half(1)], [0, 2], [5], [1, -1]]
        tuples = [(Ratio(3), Ratio(0, 7), Ratio(2, 4)), (0, 2), (Ratio(5),), (Ratio(1), Ratio(-1))]
        for one, other in zip(self.calls(*lists), self.calls(*tuples)):
            self.assertEqual(helpers.repr_of(one()), helpers.repr_of(other()))
