"""Lots put together: mixtures [80], sums [81], lots that are led [82], finer scales [83]."""

from fractions import Fraction

from firstmeans import errors, ratios, scales, sums
from firstmeans.curves import power
from firstmeans.errors import (
    BadLot, BadLots, BadNumber, BadNumbers, BadValues, BadWeights, MeansError, TooMany,
)
from firstmeans.nexts import next_range
from firstmeans.ranks import first_apart, stands_under
from firstmeans.ratios import Ratio
from firstmeans.scales import Scale, is_lot, means_of
from firstmeans.sums import added, added_means, finer, finer_lot, led_lot, mixture
from tests import helpers
from tests.helpers import (
    Case, half, means_that_lots_have, odd_values, texts, trio, wrong_lots, wrong_numbers,
)
from tests.plain import plain, plains

EXAMPLES = """
    >>> scale, coin = Scale([0, 1]), [Ratio(1, 2), Ratio(1, 2)]
    >>> sums, lot = added(scale, coin, scale, coin)
    >>> sums.text(), [share.text() for share in lot], [number.text() for number in added_means([Ratio(1, 2), Ratio(1, 2)], [Ratio(1, 2), Ratio(1, 2)])]
    ('0 1 2', ['1/4', '1/2', '1/4'], ['1', '3/2'])
    >>> led_lot(scale, [Ratio(1, 4), Ratio(3, 4)], -2, 1)[0].text(), [share.text() for share in finer_lot(scale, [Ratio(1, 2)], coin)]
    ('-1 1', ['1/2', '0', '1/2'])
    >>> mixture(scale, [coin, [1, 0]], [1, 1])
    raises BadWeights([1, 1])
"""

THREE = [[half(1), 0, half(1)], (0, 1, 0), [Ratio(1, 3), Ratio(1, 3), Ratio(1, 3)]]


def wrong_shares(many):
    """Values that are no list of so many numbers from 0 on with the sum 1, for two or three of them."""
    found = odd_values() + [1, half(1), [], [0] * many, [1] * many, [half(1)] * (many + 1), [1], [1] + [0] * many]
    found += [[0] * (many - 1) + [Ratio(99, 100)], [0] * (many - 1) + [Ratio(101, 100)], [2, -1] + [0] * (many - 2)]
    found += [[half(3)] + [0] * (many - 2) + [half(-1)], [0] * (many - 1) + [True], [1] + [False] * (many - 1)]
    return found + [[1] + [0] * (many - 2) + [None], [1] + [0] * (many - 2), "1" * many, [[1]] + [[0]] * (many - 1)]


class Mixtures(Case):
    def test_examples(self):
        self.run_examples(EXAMPLES, {**vars(errors), **vars(ratios), **vars(scales), **vars(sums)})

    def test_by_their_meaning(self):
        for scale in helpers.scales():
            lots = helpers.lots(scale)
            for chosen in (lots[:1], lots[:2], lots[-3:], lots):
                shares = [Ratio(k + 1, len(chosen) * (len(chosen) + 1) // 2) for k in range(len(chosen))]
                told = mixture(scale, chosen, shares)
                self.assert_ratios(told, " ".join(texts(told)))
                self.assertTrue(is_lot(scale, told))
                self.assertEqual(plains(told), [
                    sum(plain(share) * plain(lot[place]) for share, lot in zip(shares, chosen))
                    for place in range(len(scale))])
                for k, number in enumerate(plains(means_of(scale, told, 4))):
                    self.assertEqual(number, sum(
                        plain(share) * plain(means_of(scale, lot, 4)[k]) for share, lot in zip(shares, chosen)))

    def test_some(self):
        self.assert_ratios(mixture(trio(), THREE, [half(1), half(1), 0]), "1/4 1/2 1/4")
        self.assert_ratios(mixture(trio(), tuple(THREE), (0, 1, 0)), "0 1 0")
        self.assert_ratios(mixture(shares=[1], lots=[(0, 0, 1)], scale=trio()), "0 0 1")
        self.assert_ratios(mixture(Scale([3]), [[1], [Ratio(1)]], [Ratio(1, 3), Ratio(2, 3)]), "1")
        self.assert_ratios(mixture(trio(), [[1, 0, 0]] * 10, [Ratio(1, 10)] * 10), "1 0 0")

    def test_under_in_one_order(self):
        scale = Scale([0, 1, 2, 3])
        ones = [[0, half(1), half(1), 0], [0, 1, 0, 0]]
        others = [[half(1), 0, 0, half(1)], [half(1), 0, half(1), 0]]
        for shares in ([half(1), half(1)], [Ratio(1, 5), Ratio(4, 5)], [1, 0]):
            self.assertIs(stands_under(scale, mixture(scale, ones, shares), mixture(scale, others, shares), 2), True)

    def test_wrong_lots_ahead_of_wrong_shares(self):
        wrong = odd_values() + [7, half(1), [], (), [1, 0, 0], (half(1), 0, half(1)), "100", {"0": [1, 0, 0]}]
        wrong += [[lot] for lot in wrong_lots()] + [[[1, 0, 0], lot, [1]] for lot in wrong_lots()]
        for lots in wrong:
            self.assert_bad(BadLots, lots, mixture, trio(), lots, [1])
            self.assert_bad(BadLots, lots, mixture, shares=None, lots=lots, scale=trio())

    def test_wrong_shares(self):
        for shares in wrong_shares(2):
            self.assert_bad(BadWeights, shares, mixture, trio(), THREE[:2], shares)
            self.assert_bad(BadWeights, shares, mixture, shares=shares, lots=tuple(THREE[:2]), scale=trio())
        for shares in wrong_shares(3):
            self.assert_bad(BadWeights, shares, mixture, trio(), THREE, shares)
        for shares in ([], [0], [2], [half(1)], [1, 0], [half(1), half(1)], [True], [-1], 1):
            self.assert_bad(BadWeights, shares, mixture, trio(), THREE[:1], shares)


class Sums(Case):
    def check_added(self, scale, lot, other_scale, other):
        told = added(scale, lot, other_scale, other)
        self.assertIs(type(told), tuple)
        joint, shares = told
        self.assertIs(type(joint), Scale)
        self.assert_ratios(shares, " ".join(texts(shares)))
        wanted = {}
        for mark, share in zip(plains(scale.marks()), plains(lot)):
            for further, part in zip(plains(other_scale.marks()), plains(other)):
                wanted[mark + further] = wanted.get(mark + further, Fraction(0)) + share * part
        self.assertEqual(plains(joint.marks()), sorted(wanted))
        self.assertEqual(plains(shares), [wanted[mark] for mark in sorted(wanted)])
        self.assertEqual(means_of(joint, shares, 6), added_means(means_of(scale, lot, 6), means_of(other_scale, other, 6)))

    def test_by_their_meaning(self):
        done, refused = 0, 0
        for scale in helpers.scales():
            for other_scale in helpers.scales():
                sums_there = {one + other for one in plains(scale.marks()) for other in plains(other_scale.marks())}
                for lot, other in zip(helpers.lots(scale)[::-2], helpers.lots(other_scale)):
                    if len(sums_there) > 8:
                        self.assert_too_many(len(sums_there), scale, lot, other_scale, other)
                        refused += 1
                    else:
                        self.check_added(scale, lot, other_scale, other)
                        done += 1
        self.assertGreater(min(done, refused), 100)

    def assert_too_many(self, count, scale, lot, other_scale, other):
        with self.assertRaises(TooMany) as caught:
            added(scale, lot, other_scale, other)
        self.assertIs(type(caught.exception), TooMany)
        self.assertEqual(vars(caught.exception), {"count": count})
        self.assertIs(type(caught.exception.count), int)

    def test_eight_values_and_nine(self):
        four, five = Scale([0, 1, 2, 3]), Scale([10, 11, 12, 13, 14])
        self.check_added(four, [0, 1, 0, 0], five, [Ratio(1, 5)] * 5)
        self.check_added(Scale([0, 1]), (half(1), half(1)), Scale([0, 2, 4, 6]), (0, half(1), half(1), 0))
        self.assert_too_many(9, five, [1, 0, 0, 0, 0], five, [1, 0, 0, 0, 0])
        self.assert_too_many(9, trio(), [1, 0, 0], Scale([0, 10, 20]), [1, 0, 0])
        self.assert_too_many(64, Scale(list(range(8))), [1] + [0] * 7, Scale([8 * k for k in range(8)]), [1] + [0] * 7)
        self.check_added(helpers.scales()[-1], [Ratio(1, 8)] * 8, Scale([half(1)]), [1])

    def test_some(self):
        joint, shares = added(trio(), [half(1), 0, half(1)], Scale([-1, 2]), [Ratio(1, 3), Ratio(2, 3)])
        self.assertEqual(joint.text(), "-1 0 2 3 5")
        self.assert_ratios(shares, "1/6 0 1/2 0 1/3")
        joint, shares = added(other=(0, 1), other_scale=Scale([-1, 2]), lot=(0, 1, 0), scale=trio())
        self.assertEqual(joint.text(), "-1 0 2 3 5")
        self.assert_ratios(shares, "0 0 0 1 0")

    def test_a_third_one_added_to_both(self):
        scale, third = Scale([0, 1, 2]), Scale([0, 1, 3])
        for one, other in (([0, 1, 0], [half(1), 0, half(1)]), ([1, 0, 0], [0, half(1), half(1)])):
            order = first_apart(scale, one, other)
            self.assertIs(stands_under(scale, one, other, order), True)
            for lot in helpers.lots(third):
                joint, shares = added(scale, one, third, lot)
                self.assertIs(stands_under(joint, shares, added(scale, other, third, lot)[1], order), True)

    def test_wrong_lots(self):
        right = [half(1), 0, half(1)]
        for lot in wrong_lots():
            self.assert_bad(BadLot, lot, added, trio(), lot, trio(), right)
            self.assert_bad(BadLot, lot, added, trio(), lot, trio(), None)
            self.assert_bad(BadLot, lot, added, trio(), right, trio(), lot)
            self.assert_bad(BadLot, lot, added, other=lot, other_scale=trio(), lot=[1, 0, 0, 0], scale=Scale([0, 7, 20, 90]))
        two = [half(1), half(1)]
        self.assert_bad(BadLot, two, added, trio(), two, Scale([0, 1]), two)
        self.assert_bad(BadLot, right, added, trio(), right, Scale([0, 1]), right)

    def test_added_means(self):
        self.assert_ratios(added_means([], []), "")
        self.assert_ratios(added_means((), []), "")
        self.assert_ratios(added_means([2], [half(3)]), "7/2")
        self.assert_ratios(added_means((1, 2), [3, 4]), "4 12")
        self.assert_ratios(added_means(others=(0, 0, 0, 0), means=[5, -7, half(1), 0]), "5 -7 1/2 0")
        self.assert_ratios(added_means([1] * 12, [1] * 12), " ".join(str(2 ** k) for k in range(1, 13)))
        self.assert_ratios(added_means([0, -1, 0], [0, -2, 5]), "0 -3 5")
        self.assertEqual(len(added_means([Ratio(1, 3)] * 40, [-1] * 40)), 40)

    def test_added_means_wrong_lists(self):
        wrong = odd_values() + [7, half(1), [True], [1, None], ["1"], [[1]], [1, [2]], "12", {"a": 1}, (1, False)]
        for numbers in wrong:
            if numbers in ([], ()):
                continue
            self.assert_bad(BadNumbers, numbers, added_means, numbers, [1])
            self.assert_bad(BadNumbers, numbers, added_means, numbers, None)
            self.assert_bad(BadNumbers, numbers, added_means, [1, 2], numbers)
            self.assert_bad(BadNumbers, numbers, added_means, others=numbers, means=(half(1),))
        for means, others in (([], [1]), ([1], []), ([1, 2], [1]), ([1], [1, 2]), ((), (0,)), ([0] * 9, [0] * 8)):
            self.assert_bad(BadNumbers, others, added_means, means, others)


class Led(Case):
    def test_by_their_meaning(self):
        for scale in helpers.scales():
            for lot in helpers.lots(scale)[::2]:
                for factor, add in ((1, 0), (-1, 0), (half(3), -2), (Ratio(-2, 7), half(1)), (10 ** 50, -(10 ** 50))):
                    told = led_lot(scale, lot, factor, add)
                    self.assertIs(type(told), tuple)
                    led, shares = told
                    self.assertEqual(led, scale.led(factor, add))
                    self.assert_ratios(shares, " ".join(texts(shares)))
                    for mark, share in zip(scale.marks(), lot):
                        self.assertEqual(shares[led.place(mark * factor + add)], share)

    def test_some(self):
        led, shares = led_lot(trio(), (half(1), 0, half(1)), 2, 1)
        self.assertEqual((led.text(), texts(shares)), ("1 3 7", ["1/2", "0", "1/2"]))
        led, shares = led_lot(add=half(1), factor=half(-1), lot=[1, 0, 0], scale=trio())
        self.assertEqual((led.text(), texts(shares)), ("-1 0 1/2", ["0", "0", "1"]))

    def test_orders_stay_or_turn_about(self):
        for scale in helpers.scales()[3:10]:
            lots = helpers.lots(scale)
            for one, other in list(zip(lots, lots[1:]))[:5]:
                for order in range(1, len(scale)):
                    under = stands_under(scale, one, other, order), stands_under(scale, other, one, order)
                    for factor in (2, half(1), -1, Ratio(-5, 3)):
                        led, moved = led_lot(scale, one, factor, 1)
                        shifted = led_lot(scale, other, factor, 1)[1]
                        told = stands_under(led, moved, shifted, order), stands_under(led, shifted, moved, order)
                        stays = plain(factor) > 0 or order % 2 == 0
                        self.assertEqual(told, under if stays else under[::-1])

    def test_wrong_arguments(self):
        for lot in wrong_lots():
            self.assert_bad(BadLot, lot, led_lot, trio(), lot, 1, 0)
            self.assert_bad(BadLot, lot, led_lot, add=None, factor=0, lot=lot, scale=trio())
        for number in wrong_numbers():
            self.assert_bad(BadNumber, number, led_lot, trio(), [1, 0, 0], number, 0)
            self.assert_bad(BadNumber, number, led_lot, trio(), [1, 0, 0], number, None)
            self.assert_bad(BadNumber, number, led_lot, trio(), [1, 0, 0], 2, number)
            self.assert_bad(BadNumber, number, led_lot, add=number, factor=half(1), lot=(1, 0, 0), scale=trio())
        for factor in (0, Ratio(0)):
            self.assert_bad(BadNumber, factor, led_lot, trio(), [1, 0, 0], factor, 1)
            self.assert_bad(BadNumber, factor, led_lot, trio(), [1, 0, 0], factor, "1")


class Finer(Case):
    def wrong_values(self):
        """Values that can not be put on the scale 0 1 3."""
        found = odd_values() + [7, half(1), "", "2", {"a": 2}, [True], [2, None], ["2"], [[2]], (2, False), [2, [4]]]
        found += [[0], [1], [3], [Ratio(1)], [Ratio(6, 2)], [2, 2], [2, Ratio(2)], (half(1), half(1)), [2, 0], (4, 5, 1)]
        return found + [[4, 5, 6, 7, 8, 9], tuple(range(10, 16)), list(range(100)), [2, 4, 5, 6, 7, 8, 8]]

    def test_scales(self):
        self.assertEqual(finer(trio(), []), trio())
        self.assertEqual(finer(trio(), ()), trio())
        self.assertEqual(finer(trio(), [2]).text(), "0 1 2 3")
        self.assertEqual(finer(trio(), (9, -1, half(1))).text(), "-1 0 1/2 1 3 9")
        self.assertEqual(finer(values=[4, 5, 6, 7, 8], scale=trio()).text(), "0 1 3 4 5 6 7 8")
        self.assertEqual(finer(helpers.scales()[-1], []), helpers.scales()[-1])
        self.assertIs(type(finer(trio(), [2])), Scale)

    def test_lots(self):
        self.assert_ratios(finer_lot(trio(), [], [half(1), 0, half(1)]), "1/2 0 1/2")
        self.assert_ratios(finer_lot(trio(), [2], (half(1), 0, half(1))), "1/2 0 0 1/2")
        self.assert_ratios(finer_lot(lot=[0, 1, 0], values=(9, -1, half(1)), scale=trio()), "0 0 0 1 0 0")
        for scale in helpers.scales():
            for many in range(0, 9 - len(scale)):
                values = [Ratio(k + 1, 11) for k in range(many)][::-1]
                for lot in helpers.lots(scale)[::3]:
                    wider, shares = finer(scale, values), finer_lot(scale, values, lot)
                    self.assertTrue(is_lot(wider, shares))
                    self.assertEqual(means_of(wider, shares, 5), means_of(scale, lot, 5))

    def test_the_next_mean_has_more_room(self):
        for scale in helpers.scales()[:-1]:
            for values in ([Ratio(1, 11)], [Ratio(100)], [Ratio(-100)]):
                wider = finer(scale, values)
                for means, _ in means_that_lots_have(scale)[::5]:
                    start, end = next_range(scale, means)
                    least, greatest = next_range(wider, means)
                    self.assertTrue(least <= start and end <= greatest)
                    self.assertEqual(len(power(wider, 2)), len(scale) + 1)

    def test_wrong_values(self):
        for values in self.wrong_values():
            self.assert_bad(BadValues, values, finer, trio(), values)
            self.assert_bad(BadValues, values, finer, values=values, scale=trio())
            self.assert_bad(BadValues, values, finer_lot, trio(), values, [1, 0, 0])
            self.assert_bad(BadValues, values, finer_lot, lot=None, values=values, scale=trio())
        for values in ([20], (half(11),), [0]):
            self.assert_bad(BadValues, values, finer, helpers.scales()[-1], values)

    def test_wrong_lots(self):
        for lot in wrong_lots():
            self.assert_bad(BadLot, lot, finer_lot, trio(), [2], lot)
            self.assert_bad(BadLot, lot, finer_lot, lot=lot, values=(), scale=trio())
        lot = [half(1), 0, 0, half(1)]
        self.assert_bad(BadLot, lot, finer_lot, trio(), [2], lot)


class NothingChanges(Case):
    def calls(self, lots, shares, values, means):
        scale = trio()
        return [
            lambda: mixture(scale, lots, shares), lambda: added(scale, lots[0], Scale([0, 1]), shares)[1],
            lambda: added_means(means, values), lambda: led_lot(scale, lots[0], -2, 1)[1],
            lambda: led_lot(scale, lots[1], half(1), 1)[1], lambda: finer_lot(scale, values, lots[1]),
            lambda: finer(scale, values).marks(), lambda: finer_lot(scale, [], lots[0]),
        ]

    def given(self):
        return [[[half(1), Ratio(0), half(1)], [0, Ratio(1), 0]], [Ratio(1, 4), Ratio(3, 4)], [2, Ratio(4)], [5, half(1)]]

    def test_what_is_passed_is_not_changed(self):
        given = self.given()
        before = helpers.repr_of(given)
        for call in self.calls(*given):
            call()
            self.assertEqual(helpers.repr_of(given), before)

    def test_what_is_returned_is_new(self):
        given = self.given()
        before = helpers.repr_of(given)
        for call in self.calls(*given):
            self.assert_new_lists(call)
            self.assertEqual(helpers.repr_of(given), before)

    def test_a_scale_keeps_no_list(self):
        values = [2, 4]
        wider = finer(trio(), values)
        values[:] = [7]
        self.assertEqual(wider.text(), "0 1 2 3 4")

    def test_equal_arguments_tell_equal_things(self):
        tuples = [((Ratio(2, 4), 0, half(1)), (Ratio(0), 1, Ratio(0))), (Ratio(2, 8), Ratio(3, 4)), (Ratio(2), 4),
                  (Ratio(5), half(1))]
        for one, other in zip(self.calls(*self.given()), self.calls(*tuples)):
            self.assertEqual(helpers.repr_of(one()), helpers.repr_of(other()))

    def test_wrong_arguments_are_not_changed(self):
        lots, shares, values = [[1, 0, 0], [1]], [1, 1], [2, 2]
        before = helpers.repr_of((lots, shares, values))
        for call in (lambda: mixture(trio(), lots, shares), lambda: mixture(trio(), THREE[:2], shares),
                     lambda: finer(trio(), values), lambda: added_means(shares, lots), lambda: led_lot(trio(), values, 1, 1)):
            with self.assertRaises(MeansError):
                call()
        self.assertEqual(helpers.repr_of((lots, shares, values)), before)
