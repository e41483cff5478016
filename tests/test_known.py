"""Means and lots that have them [4] [30], bars [7] [31], corners [32], edges [33]."""

from itertools import combinations

from firstmeans import errors, known, ratios, scales
from firstmeans.errors import BadLot, BadMeans, BadPolynomial
from firstmeans.known import bar, corners, edge, has, is_bar, is_edge, is_sole, mean_by, some_lot
from firstmeans.ratios import Ratio
from firstmeans.scales import Scale, is_lot, means_of, uses
from tests import helpers
from tests.helpers import (
    Case, half, means_that_lots_have, means_that_no_lot_has, odd_values, strange_values, texts, trio, wrong_lists,
    wrong_lots, wrong_means,
)
from tests.plain import all_corners, at_marks, by_means, mean_for, plain, plains

EXAMPLES = """
    >>> scale = Scale([0, 1, 2])
    >>> [[share.text() for share in lot] for lot in corners(scale, [1])], is_sole(scale, [0]), some_lot(scale, [3])
    ([['0', '1', '0'], ['1/2', '0', '1/2']], True, None)
    >>> is_bar(scale, [3], [2, -1]), is_bar(scale, [1], [2, -1]), mean_by(scale, [1], [2, -1]).text(), is_edge(scale, [0], [0, 1])
    (True, False, '1', True)
    >>> has(scale, [1], [0, 1])
    raises BadLot([0, 1])
"""


def grid(scale):
    """Means of which some lot has some, and no lot has others, also just at the limits."""
    found = [means for means, _ in means_that_lots_have(scale)] + means_that_no_lot_has(scale)
    for means, _ in means_that_lots_have(scale)[::4]:
        for change in (Ratio(1, 10 ** 12), Ratio(-1, 10 ** 12), half(1)):
            if means:
                found.append([*means[:-1], means[-1] + change])
    return found


class ByMeans(Case):
    def test_examples(self):
        self.run_examples(EXAMPLES, {**vars(errors), **vars(ratios), **vars(scales), **vars(known)})

    def test_mean_by(self):
        self.assert_ratio(mean_by(trio(), [], [half(3)]), 3, 2)
        self.assert_ratio(mean_by(trio(), [2], [5]), 5)
        self.assert_ratio(mean_by(trio(), [2], [5, -1]), 3)
        self.assert_ratio(mean_by(trio(), (2, half(1)), (1, Ratio(1, 3), 4)), 11, 3)
        self.assert_ratio(mean_by(polynomial=[1, 0], means=[2, 9], scale=trio()), 1)
        self.assert_ratio(mean_by(Scale([5]), [], [0]), 0)

    def test_mean_by_is_the_mean_of_the_curve(self):
        for scale in helpers.scales():
            for means, lot in means_that_lots_have(scale):
                for polynomial in ([1], [half(-3), 2], [0, 1, -1], (1, 0, Ratio(1, 7), -2), [3, -1, 0, 0, 5]):
                    if len(polynomial) <= len(means) + 1:
                        told = mean_by(scale, means, polynomial)
                        self.assertEqual(plain(told), mean_for(lot, at_marks(scale, polynomial)))

    def test_mean_by_wrong_polynomials(self):
        for d, means in enumerate(([], [1], [1, 2])):
            for value in wrong_lists(d + 1) + [[], (), [0] * 9]:
                self.assert_bad(BadPolynomial, value, mean_by, trio(), means, value)
                self.assert_bad(BadPolynomial, value, mean_by, polynomial=value, means=tuple(means), scale=trio())
        eight = helpers.scales()[-1]
        self.assert_ratio(mean_by(eight, [1, 2, 3, 4], [1, 1, 1, 1, 1]), 11)
        for value in ([1] * 6, (1,) * 8, []):
            self.assert_bad(BadPolynomial, value, mean_by, eight, [1, 2, 3, 4], value)

    def test_has(self):
        self.assertIs(has(trio(), [], [1, 0, 0]), True)
        self.assertIs(has(trio(), [half(3)], (half(1), 0, half(1))), True)
        self.assertIs(has(trio(), (half(3), half(9)), [half(1), 0, half(1)]), True)
        self.assertIs(has(trio(), [half(3), 4], [half(1), 0, half(1)]), False)
        self.assertIs(has(lot=[0, 1, 0], means=[2], scale=trio()), False)
        for scale in helpers.scales():
            for means, lot in means_that_lots_have(scale):
                self.assertIs(has(scale, means, lot), True)
                for at in range(len(means)):
                    changed = [number + int(at == k) for k, number in enumerate(means)]
                    self.assertIs(has(scale, changed, lot), False)

    def test_has_wrong_lots(self):
        for lot in wrong_lots():
            self.assert_bad(BadLot, lot, has, trio(), [1], lot)
            self.assert_bad(BadLot, lot, has, lot=lot, means=[], scale=trio())


class WrongMeans(Case):
    def test_wrong_means_ahead_of_all_else(self):
        for scale in (Scale([4]), Scale([0, 1]), trio(), helpers.scales()[-3], helpers.scales()[-1]):
            for means in wrong_means(scale):
                for call in (some_lot, bar, corners, is_sole, edge):
                    self.assert_bad(BadMeans, means, call, scale, means)
                    self.assert_bad(BadMeans, means, call, means=means, scale=scale)
                self.assert_bad(BadMeans, means, mean_by, scale, means, [1])
                self.assert_bad(BadMeans, means, mean_by, scale, means, None)
                self.assert_bad(BadMeans, means, has, scale, means, [1] + [0] * (len(scale) - 1))
                self.assert_bad(BadMeans, means, has, lot=True, means=means, scale=scale)
                self.assert_bad(BadMeans, means, is_bar, scale, means, [1])
                self.assert_bad(BadMeans, means, is_bar, value=None, means=means, scale=scale)
                self.assert_bad(BadMeans, means, is_edge, scale, means, [1])
                self.assert_bad(BadMeans, means, is_edge, value=None, means=means, scale=scale)

    def test_as_many_means_as_values(self):
        for size in range(1, 6):
            scale = Scale(list(range(size)))
            means = (half(1),) * size
            self.assert_bad(BadMeans, means, some_lot, scale, means)
            some_lot(scale, means[1:])
        for size in (6, 7, 8):
            means = [0] * 5
            self.assert_bad(BadMeans, means, corners, Scale(list(range(size))), means)
            self.assertEqual(len(corners(Scale(list(range(size))), means[1:])), 1)


class ALotOrABar(Case):
    def check_lot(self, scale, means):
        lot = some_lot(scale, means)
        self.assert_ratios(lot, " ".join(texts(lot)))
        self.assertTrue(is_lot(scale, lot))
        self.assertEqual(means_of(scale, lot, len(means)), list(means))
        self.assertIsNone(bar(scale, means))

    def check_bar(self, scale, means):
        self.assertIsNone(some_lot(scale, means))
        told = bar(scale, means)
        self.assert_ratios(told, " ".join(texts(told)))
        self.assertEqual(len(told), len(means) + 1)
        numbers = at_marks(scale, told)
        self.assertEqual(min(numbers), 0)
        self.assertEqual(numbers.count(0), len(means))
        self.assertEqual(abs(plain(told[-1])), 1)
        self.assertLess(by_means(means, told), 0)
        self.assertIs(is_bar(scale, means, told), True)

    def test_either_or(self):
        both = [0, 0]
        for scale in helpers.scales():
            for means in grid(scale):
                if all_corners(scale, means):
                    self.check_lot(scale, means)
                    both[0] += 1
                else:
                    self.check_bar(scale, means)
                    both[1] += 1
        self.assertGreater(min(both), 100)

    def test_some(self):
        self.check_lot(trio(), [])
        self.check_lot(trio(), (0,))
        self.check_lot(trio(), [3, 9])
        self.check_bar(trio(), [-1])
        self.check_bar(trio(), (Ratio(31, 10),))
        self.check_bar(trio(), [1, half(1)])
        self.check_bar(trio(), [2, 7])
        self.assert_ratios(bar(trio(), [4]), "3 -1")
        self.assert_ratios(bar(means=[-1], scale=trio()), "0 1")
        self.assert_ratios(some_lot(means=[], scale=Scale([9])), "1")

    def test_numbers_at_the_limit(self):
        least = Ratio(1, 10 ** 50)
        for scale in (trio(), helpers.scales()[-1]):
            marks = scale.marks()
            self.check_lot(scale, [marks[0]])
            self.check_bar(scale, [marks[0] - least])
            self.check_lot(scale, [marks[-1]])
            self.check_bar(scale, [marks[-1] + least])
            self.check_lot(scale, [marks[1], marks[1] * marks[1]])
            self.check_bar(scale, [marks[1], marks[1] * marks[1] - least])
        self.check_bar(trio(), [10 ** 50, -(10 ** 50)])

    def test_is_bar(self):
        scale = trio()
        for value in ([3, -1], (6, -2), [Ratio(7, 2), -1], (half(3), half(-1))):
            self.assertIs(is_bar(scale, [4], value), True)
            self.assertIs(is_bar(value=value, means=[4], scale=scale), True)
        for value in ([4, -1], [2, -1], [0, 1], [3, -1, 0], (3, -1, 0, 0), [-1], [0], [0, 0], [1], [5]):
            self.assertIs(is_bar(scale, [4], value), False)
        for value in ([0, -1, 1], [0, half(-1), half(1)], [Ratio(1, 100), -1, 1], (0, -2, 2)):
            self.assertIs(is_bar(scale, [1, half(1)], value), True)
        for value in ([0, -1, 1, 0], [half(1), -1, 1], [Ratio(-1, 100), -1, 1], [-1, 2, -1], [0, 1], [0, 1, 0],
                      [0, 3, -1]):
            self.assertIs(is_bar(scale, [1, half(1)], value), False)

    def test_shorter_bars_and_bars_that_are_no_products(self):
        scale = trio()
        self.assertIs(is_bar(scale, [4, 5], [3, -1]), True)
        self.assertIs(is_bar(scale, [4, 5], [3, -1, 0]), True)
        self.assertIs(is_bar(scale, [half(1), 0], [Ratio(1, 16), half(-1), 1]), True)
        self.assertIs(is_bar(scale, [half(1), 0], [Ratio(1, 8), Ratio(-1, 4), 1]), False)
        self.assertIs(is_bar(scale, [half(1), 0], [Ratio(1, 9), Ratio(-1, 4), 1]), True)
        self.assertIs(is_bar(scale, [half(1), 0], [0, Ratio(-1, 4), Ratio(1, 5)]), False)

    def test_no_means_no_bars(self):
        for value in ([], [0], [1], [-1], (half(-1),), [1, -2], None):
            self.assertIs(is_bar(trio(), [], value), False)
            self.assertIs(is_bar(Scale([2]), (), value), False)

    def test_is_bar_raises_nothing(self):
        for value in strange_values() + wrong_lists(2) + [[3, -1.0], [3, True], ["3", -1], [3, None], {3: -1}]:
            self.assertIs(is_bar(trio(), [4], value), False)


class Corners(Case):
    def check_corners(self, scale, means):
        told = corners(scale, means)
        self.assertIs(type(told), list)
        for lot in told:
            self.assert_ratios(lot, " ".join(texts(lot)))
        self.assertEqual([plains(lot) for lot in told], all_corners(scale, means))

    def test_all_corners(self):
        for scale in helpers.scales():
            for means in grid(scale):
                self.check_corners(scale, means)

    def test_some(self):
        alone = [["0", "0", "1"], ["0", "1", "0"], ["1", "0", "0"]]
        self.assertEqual([texts(lot) for lot in corners(trio(), [])], alone)
        self.assertEqual([texts(lot) for lot in corners(trio(), (1,))], [["0", "1", "0"], ["2/3", "0", "1/3"]])
        self.assertEqual([texts(lot) for lot in corners(means=[3], scale=trio())], [["0", "0", "1"]])
        self.assertEqual(corners(trio(), [4]), [])
        self.assertEqual(corners(trio(), [1, half(1)]), [])

    def test_corners_use_no_more_than_they_must(self):
        for scale in helpers.scales():
            for means, _ in means_that_lots_have(scale)[::3]:
                told = corners(scale, means)
                used = [set(uses(scale, lot)) for lot in told]
                for one, other in combinations(used, 2):
                    self.assertFalse(one <= other or other <= one)
                self.assertTrue(all(len(places) <= len(means) + 1 for places in used))

    def test_as_many_values_as_means_and_one(self):
        for size in range(1, 6):
            scale = Scale([mark * mark + mark for mark in range(size)])
            for means, lot in means_that_lots_have(scale):
                if len(means) == size - 1:
                    self.assertEqual([plains(found) for found in corners(scale, means)], [plains(lot)])


class Edges(Case):
    def check_edge(self, scale, means):
        told = edge(scale, means)
        self.assert_ratios(told, " ".join(texts(told)))
        self.assertTrue(1 <= len(told) <= len(means) + 1)
        numbers = at_marks(scale, told)
        self.assertEqual(min(numbers), 0)
        self.assertGreater(max(numbers), 0)
        self.assertEqual(by_means(means, told), 0)
        self.assertIs(is_edge(scale, means, told), True)

    def test_edges_and_sole_lots(self):
        found = {True: 0, False: 0}
        for scale in helpers.scales():
            for means, _ in means_that_lots_have(scale):
                just = all_corners(scale, means)
                self.assertIs(is_sole(scale, means), len(just) == 1)
                # There is an edge exactly if some value is used by no lot that has the means.
                open_values = all(any(lot[at] > 0 for lot in just) for at in range(len(scale)))
                found[open_values] += 1
                if open_values:
                    self.assertIsNone(edge(scale, means))
                else:
                    self.check_edge(scale, means)
                if len(scale) > len(means) + 1:
                    self.assertIs(edge(scale, means) is not None, is_sole(scale, means))
        self.assertGreater(min(found.values()), 50)

    def test_some(self):
        self.assert_ratios(edge(trio(), [0]), "0 1")
        self.assert_ratios(edge(means=(3,), scale=trio()), "3 -1")
        self.assertIsNone(edge(trio(), [1]))
        self.assertIsNone(edge(trio(), []))
        self.assertIsNone(edge(Scale([4]), []))
        self.assertIsNone(edge(Scale([0, 1]), [half(1)]))
        self.check_edge(Scale([0, 1]), [1])
        self.check_edge(trio(), [1, 1])
        self.check_edge(trio(), [2, 6])

    def test_sole(self):
        self.assertIs(is_sole(Scale([4]), []), True)
        self.assertIs(is_sole(trio(), []), False)
        self.assertIs(is_sole(trio(), [3]), True)
        self.assertIs(is_sole(trio(), [1]), False)
        self.assertIs(is_sole(trio(), (1, 1)), True)
        self.assertIs(is_sole(trio(), [half(3), 4]), True)
        self.assertIs(is_sole(means=[2, 5], scale=Scale([0, 1, 3, 4])), True)
        self.assertIs(is_sole(means=[2, 6], scale=Scale([0, 1, 3, 4])), False)
        for scale in helpers.scales():
            for means in means_that_no_lot_has(scale):
                self.assertIs(is_sole(scale, means), False)

    def test_no_lot(self):
        for scale in helpers.scales():
            for means in means_that_no_lot_has(scale):
                told = bar(scale, means)
                self.assert_no_lot(told, edge, scale, means)
                self.assert_no_lot(told, edge, means=tuple(means), scale=scale)
                for value in (told, None, [0, 1]):
                    self.assert_no_lot(told, is_edge, scale, means, value)
                    self.assert_no_lot(told, is_edge, value=value, means=tuple(means), scale=scale)

    def test_is_edge(self):
        scale = trio()
        for value in ([0, 1], (0, half(1)), [Ratio(0), 7]):
            self.assertIs(is_edge(scale, [0], value), True)
            self.assertIs(is_edge(value=value, means=(0,), scale=scale), True)
        for value in ([0, -1], [0], [0, 0], [1, 1], [3, -1], [0, 1, 0], [0, 0, 1], [1], [-1, 1], []):
            self.assertIs(is_edge(scale, [0], value), False)
        for value in ([1, -2, 1], (half(1), -1, half(1)), [0, -1, 1], [Ratio(1, 10), Ratio(-11, 10), 1], [3, -4, 1]):
            self.assertIs(is_edge(scale, [1, 1], value), True)
        for value in ([-1, 1], [1, -1, 0], [-3, 4, -1], [4, -5, 1], [1, -2, Ratio(101, 100)], [0, 1, -1],
                      [1, -2, 1, 0]):
            self.assertIs(is_edge(scale, [1, 1], value), False)
        self.assertIs(is_edge(scale, [0, 0], [0, 1]), True)
        self.assertIs(is_edge(scale, [0, 0], [0, 1, 0]), True)
        self.assertIs(is_edge(scale, [1], [0, 0]), False)
        self.assertIs(is_edge(scale, [1], [-1, 1]), False)

    def test_no_means_no_edges(self):
        for value in ([0], [1], [], (0,), None):
            self.assertIs(is_edge(trio(), [], value), False)
            self.assertIs(is_edge(Scale([-1]), [], value), False)

    def test_is_edge_raises_nothing(self):
        for value in strange_values() + wrong_lists(2) + [[0, 1.0], [False, 1], [0, True], ["0", 1], {0: 1}]:
            self.assertIs(is_edge(trio(), [0], value), False)


class NothingChanges(Case):
    def calls(self, means, lot, polynomial):
        scale = trio()
        return [
            lambda: mean_by(scale, means, polynomial), lambda: has(scale, means, lot), lambda: some_lot(scale, means),
            lambda: bar(scale, means), lambda: is_bar(scale, means, polynomial), lambda: corners(scale, means),
            lambda: edge(scale, [0]), lambda: is_edge(scale, [0], polynomial), lambda: is_sole(scale, means),
            lambda: bar(scale, [*means, -1]), lambda: corners(scale, []),
        ]

    def test_what_is_passed_is_not_changed(self):
        given = [[half(3)], [half(1), 0, half(1)], [2, Ratio(-1)]]
        before = helpers.repr_of(given)
        for call in self.calls(*given):
            call()
            self.assertEqual(helpers.repr_of(given), before)

    def test_what_is_returned_is_new(self):
        given = [[half(3)], [half(1), 0, half(1)], [2, Ratio(-1)]]
        before = helpers.repr_of(given)
        for call in self.calls(*given):
            self.assert_new_lists(call)
            self.assertEqual(helpers.repr_of(given), before)

    def test_a_bar_in_an_error_is_new(self):
        def caught():
            try:
                edge(trio(), [4])
            except errors.NoLot as error:
                return error.bar
        self.assert_new_lists(caught)

    def test_equal_arguments_tell_equal_things(self):
        lists = [[half(3)], [half(1), 0, half(1)], [2, -1]]
        tuples = [(Ratio(6, 4),), (half(1), Ratio(0), half(1)), (Ratio(2), Ratio(-1))]
        for one, other in zip(self.calls(*lists), self.calls(*tuples)):
            self.assertEqual(helpers.repr_of(one()), helpers.repr_of(other()))

    def test_wrong_arguments_are_not_changed(self):
        for value in ([1, True], [[1], [2]], [5, 5, 5]):
            before = helpers.repr_of(value)
            for call in (lambda: corners(trio(), value), lambda: has(trio(), [], value),
                         lambda: mean_by(trio(), [1], value)):
                with self.assertRaises(errors.MeansError):
                    call()
            self.assertEqual(helpers.repr_of(value), before)
        self.assertEqual(odd_values()[:5], [None, True, False, "", "1"])
