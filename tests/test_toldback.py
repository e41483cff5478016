"""Told back: covers [90], facts and claims [91], lots that fit and clashes [92], what is sure, needless facts [93]."""

from random import Random

from firstmeans import curves, errors, ratios, scales, toldback
from firstmeans.anycurve import greatest, least
from firstmeans.curves import cover, power
from firstmeans.errors import BadCurve, BadFact, BadLot, BadNumbers, MeansError, NoFit
from firstmeans.ratios import Ratio, weighed
from firstmeans.scales import Scale, is_lot, mean
from firstmeans.toldback import (
    claims, clash, covers, fault, fitting, is_clash, lot_of_covers, needless, sure_bounds,
)
from tests import helpers
from tests.helpers import (
    Case, half, means_that_lots_have, means_that_no_lot_has, odd_values, strange_values, texts, trio, wrong_curves,
    wrong_lists, wrong_lots,
)
from tests.plain import fitting_corners, mean_for, plain_claims, plains

EXAMPLES = """
    >>> scale = Scale([0, 1, 3])
    >>> [number.text() for number in covers(scale, [Ratio(1, 2), 0, Ratio(1, 2)])], [share.text() for share in lot_of_covers(scale, [1, Ratio(1, 2), 0])]
    (['3/2', '1', '0'], ['1/2', '1/4', '1/4'])
    >>> fault(scale, [1, 1, 0]), fault(scale, [1, Ratio(1, 2), 1]), lot_of_covers(scale, [1, 1, 0])
    (1, 2, None)
    >>> facts = [("at least", [0, 1, 3], 2), ("at most", [0, 0, 1], Ratio(1, 2))]
    >>> fitting(scale, facts) is None, [[number.text() for number in bound] for bound in [sure_bounds(scale, facts, [0, 1, 0])]], needless(scale, facts)
    (False, [['1/2', '1/2']], [])
    >>> is_clash(scale, [*facts, ("at most", [0, 1, 0], 0)], [1, 3, 2]), clash(scale, facts)
    (True, None)
    >>> claims(scale, [("is", [1, 2], 0)])
    raises BadFact(('is', [1, 2], 0))
"""

WORDS = ("is", "at most", "at least")
# Facts of the scale 0 1 3 that fit just at the lot 1/2 0 1/2.
JUST_ONE = [("is", [0, 1, 3], half(3)), ("at least", [0, 0, 1], half(1))]
# Facts of the scale 0 1 3 that clash.
CLASHING = [("at least", [0, 1, 3], 2), ("at most", [0, 0, 1], half(1)), ("at most", [0, 1, 0], 0)]


def wrong_facts():
    """Values that are no fact of a scale of three values."""
    curve = [0, 1, 3]
    found = odd_values() + [7, half(1), [], (), [1], (1, 2, 3), "is", ("is",), ("is", curve), (curve, 1), ("is", 1, curve)]
    found += [["is", curve, 1], ["at most", curve, 1], [("is", curve, 1)], (("is", curve, 1),), {"is": (curve, 1)}]
    found += [("is", curve, 1, 1), ("is", curve, 1, None), ("is", curve, [1]), ("is", curve, True), ("is", curve, None),
              ("is", curve, "1"), ("at most", curve, False), ("at least", curve, {})]
    for word in ("Is", "IS", "is ", " is", "at  most", "atmost", "most", "at_least", "", "at most\n", "not", "above"):
        found.append((word, curve, 1))
    for word in (None, True, 0, 1, half(1), ["is"], ("is",), {"is": 1}, [], {}):
        found.append((word, curve, 1))
    return found + [("is", value, 1) for value in wrong_curves()]


def some_facts():
    """Scales of two to four values with facts that fit, that clash, that touch."""
    random = Random(3)
    found = []
    for many in range(140):
        scale = Scale(random.sample([-3, -1, 0, half(1), 1, 2, Ratio(7, 3), 5], random.randint(2, 4)))
        parts = [random.randint(0, 3) for _ in range(len(scale))]
        parts[random.randrange(len(scale))] += 1
        lot = [Ratio(part, sum(parts)) for part in parts]
        facts = []
        for _ in range(random.randint(0, 4)):
            curve = [Ratio(random.randint(-4, 4), random.randint(1, 2)) for _ in range(len(scale))]
            # Most facts are true of the lot, many just so.
            shift = random.choice([0, 0, 0, 1, half(1), 0] if many % 3 else [-3, -1, 0, half(1)])
            word = random.choice(WORDS)
            number = mean(scale, lot, curve) + (shift if word == "at most" else -shift if word == "at least" else 0)
            facts.append((word, curve, number + (half(1) if word == "is" and many % 7 == 0 else 0)))
        found.append((scale, facts))
    return found


class Covers(Case):
    def test_examples(self):
        self.run_examples(EXAMPLES, {**vars(errors), **vars(ratios), **vars(scales), **vars(curves), **vars(toldback)})

    def test_by_their_meaning_and_back(self):
        for scale in helpers.scales():
            marks = plains(scale.marks())
            for lot in helpers.lots(scale):
                told = covers(scale, lot)
                self.assert_ratios(told, " ".join(texts(told)))
                self.assertEqual(plains(told), [
                    sum(share * max(mark - start, 0) for mark, share in zip(marks, plains(lot))) for start in marks])
                self.assertIsNone(fault(scale, told))
                back = lot_of_covers(scale, told)
                self.assert_ratios(back, " ".join(texts(back)))
                self.assertEqual(plains(back), plains(lot))

    def test_some(self):
        self.assert_ratios(covers(Scale([-2, 0, half(1)]), [0, half(1), half(1)]), "9/4 1/4 0")
        self.assert_ratios(covers(lot=(0, 0, 1), scale=trio()), "3 2 0")
        self.assert_ratios(covers(Scale([7]), [1]), "0")
        self.assert_ratios(lot_of_covers(prices=(3, 2, 0), scale=trio()), "0 0 1")
        self.assert_ratios(lot_of_covers(Scale([7]), [0]), "1")
        self.assert_ratios(lot_of_covers(Scale([7]), (Ratio(0),)), "1")
        self.assertIs(fault(trio(), [0, 0, 0]), None)
        self.assert_ratios(lot_of_covers(trio(), [0, 0, 0]), "1 0 0")

    def check_fault(self, scale, prices, wanted):
        told = fault(scale, prices)
        self.assertIs(type(told), int)
        self.assertEqual(told, wanted)
        self.assertIsNone(lot_of_covers(scale, prices))

    def test_faults(self):
        tiny = Ratio(1, 10 ** 50)
        self.check_fault(trio(), [1, half(1), 1], 2)
        self.check_fault(trio(), [1, half(1), tiny], 2)
        self.check_fault(trio(), [1, half(1), -tiny], 2)
        self.check_fault(trio(), (3, 2, -1), 2)
        self.check_fault(trio(), [9, 0, 1], 2)
        self.check_fault(trio(), [2, 0, 0], 0)
        self.check_fault(trio(), [Ratio(1) + tiny, 0, 0], 0)
        self.check_fault(trio(), [5, 6, 0], 1)
        self.check_fault(trio(), [5, 2, 0], 0)
        self.check_fault(trio(), [1, 1, 0], 1)
        self.check_fault(trio(), [1, Ratio(2, 3) + tiny, 0], 1)
        self.assertIsNone(fault(trio(), [1, Ratio(2, 3), 0]))
        self.check_fault(trio(), [-1, -1, 0], 2)
        self.check_fault(trio(), [-2, -1, 0], 1)
        self.check_fault(trio(), [0, -1, 0], 2)
        self.check_fault(Scale([7]), [1], 0)
        self.check_fault(Scale([7]), [-1], 0)
        self.check_fault(Scale([0, 2]), [3, 0], 0)
        self.check_fault(Scale([0, 2]), [-1, 0], 1)
        self.assertEqual(fault(prices=(1, 1, 0), scale=trio()), 1)

    def test_faults_at_each_place(self):
        scale = helpers.scales()[-1]
        for place in range(len(scale)):
            shares = [Ratio(2, 7)] * 8
            shares[place] = Ratio(-1)
            self.check_fault(scale, [weighed(shares, cover(scale, mark)) for mark in scale.marks()], place)

    def test_wrong_arguments(self):
        for lot in wrong_lots():
            self.assert_bad(BadLot, lot, covers, trio(), lot)
            self.assert_bad(BadLot, lot, covers, lot=lot, scale=trio())
        for prices in wrong_curves() + [[1, half(1), 0, 0], [0, 0], [0, 0, False]]:
            for call in (lot_of_covers, fault):
                self.assert_bad(BadNumbers, prices, call, trio(), prices)
                self.assert_bad(BadNumbers, prices, call, prices=prices, scale=trio())


class Claims(Case):
    def assert_claims(self, told, wanted):
        self.assertIs(type(told), list)
        for claim in told:
            self.assertEqual((type(claim), len(claim)), (tuple, 2))
            self.assert_ratios(claim[0], " ".join(texts(claim[0])))
            self.assert_ratios([claim[1]], claim[1].text())
        self.assertEqual([" ".join(texts(curve)) + ": " + number.text() for curve, number in told], wanted)

    def test_each_word(self):
        curve = [0, half(-1), 3]
        self.assert_claims(claims(trio(), [("at most", curve, 1)]), ["0 -1/2 3: 1"])
        self.assert_claims(claims(trio(), [("at least", curve, 1)]), ["0 1/2 -3: -1"])
        self.assert_claims(claims(trio(), [("is", curve, half(1))]), ["0 -1/2 3: 1/2", "0 1/2 -3: -1/2"])
        self.assert_claims(claims(trio(), []), [])
        self.assert_claims(claims(trio(), ()), [])
        facts = (("at least", (1, 2, 3), Ratio(2)), ("is", curve, 0), ("at most", curve, -1))
        wanted = ["-1 -2 -3: -2", "0 -1/2 3: 0", "0 1/2 -3: 0", "0 -1/2 3: -1"]
        self.assert_claims(claims(trio(), facts), wanted)
        self.assert_claims(claims(facts=list(facts), scale=trio()), wanted)
        self.assert_claims(claims(Scale([4]), [("is", [2], 2)] * 2), ["2: 2", "-2: -2"] * 2)

    def test_the_first_wrong_fact_counts(self):
        right = ("is", [0, 1, 3], 1)
        for wrong in wrong_facts():
            for call in (claims, fitting, clash, needless):
                self.assert_bad(BadFact, wrong, call, trio(), [wrong])
                self.assert_bad(BadFact, wrong, call, facts=(right, wrong, right), scale=trio())
            self.assert_bad(BadFact, wrong, is_clash, trio(), [wrong, ["is"]], [1])
            self.assert_bad(BadFact, wrong, is_clash, value=None, facts=[*CLASHING, wrong], scale=trio())
            self.assert_bad(BadFact, wrong, sure_bounds, trio(), [wrong], [0, 1, 3])
            self.assert_bad(BadFact, wrong, sure_bounds, curve=None, facts=(*CLASHING, wrong, None), scale=trio())


class FittingOrNot(Case):
    def check_fits(self, scale, facts):
        lot = fitting(scale, facts)
        self.assert_ratios(lot, " ".join(texts(lot)))
        self.assertTrue(is_lot(scale, lot))
        for heights in plain_claims(facts):
            self.assertLessEqual(mean_for(lot, heights), 0)
        self.assertIsNone(clash(scale, facts))

    def check_clashes(self, scale, facts):
        self.assertIsNone(fitting(scale, facts))
        told = clash(scale, facts)
        heights = plain_claims(facts)
        self.assert_ratios(told, " ".join(texts(told)))
        self.assertEqual(len(told), len(heights))
        self.assertGreaterEqual(min(plains(told)), 0)
        for place in range(len(scale)):
            self.assertGreater(sum(weight * row[place] for weight, row in zip(plains(told), heights)), 0)
        self.assertIs(is_clash(scale, facts, told), True)
        self.assertIs(is_clash(scale, facts, tuple(told)), True)

    def test_against_all_corners(self):
        found = {"none": 0, "just one": 0, "more": 0}
        for scale, facts in some_facts():
            just = fitting_corners(scale, facts)
            if just:
                self.check_fits(scale, facts)
            else:
                self.check_clashes(scale, facts)
            found["none" if not just else "just one" if len(just) == 1 else "more"] += 1
        self.assertGreater(min(found.values()), 15)

    def test_some(self):
        for scale in helpers.scales():
            self.check_fits(scale, [])
            for word in WORDS:
                self.check_fits(scale, [(word, [1] * len(scale), 1)])
            self.check_clashes(scale, [("is", [1] * len(scale), 2)])
            self.check_clashes(scale, [("at most", [1] * len(scale), 0)])
            self.check_clashes(scale, [("at least", [0] * len(scale), Ratio(1, 10 ** 50))])
        self.check_fits(trio(), tuple(JUST_ONE))
        self.assert_ratios(fitting(facts=JUST_ONE, scale=trio()), "1/2 0 1/2")
        self.check_fits(trio(), CLASHING[:2])
        self.check_clashes(trio(), CLASHING)
        self.check_clashes(trio(), tuple(CLASHING[::-1]))

    def test_just_at_one_lot_and_a_little_beside_it(self):
        tiny = Ratio(1, 10 ** 50)
        for scale in helpers.scales()[3:]:
            marks = scale.marks()
            for lot in helpers.lots(scale)[::3]:
                known = [("is", power(scale, k), mean(scale, lot, power(scale, k))) for k in range(1, min(len(marks), 6))]
                self.check_fits(scale, known)
                top = ("at most", marks, mean(scale, lot, marks) - tiny)
                self.check_clashes(scale, [*known, top])
            self.check_fits(scale, [("at least", marks, marks[-1])])
            self.assertEqual(fitting(scale, [("at least", marks, marks[-1])]), [0] * (len(marks) - 1) + [1])
            self.check_clashes(scale, [("at least", marks, marks[-1] + tiny)])
            self.check_clashes(scale, [("at most", marks, marks[0] - tiny)])

    def test_eight_facts(self):
        random = Random(8)
        scale = helpers.scales()[-1]
        for shift, fits in ((0, True), (half(1), True), (-1, False), (Ratio(-1, 10), False)):
            lot = [Ratio(k, 36) for k in range(1, 9)]
            facts = []
            for k in range(8):
                curve = [random.randint(-9, 9) for _ in range(8)]
                number = mean(scale, lot, curve)
                facts.append((WORDS[k % 3], curve, number + (shift if k % 3 == 1 else -shift if k % 3 == 2 else 0)))
            if fits:
                self.check_fits(scale, facts)
                self.check_fits(scale, [*facts, ("is", [1] * 8, 1), ("at most", scale.marks(), 9)])
            else:
                self.check_clashes(scale, facts + [("is", curve, number + 40)])

    def test_as_the_means_tell(self):
        for scale in helpers.scales()[3::3]:
            for means in means_that_no_lot_has(scale)[::3]:
                self.check_clashes(scale, [("is", power(scale, k + 1), number) for k, number in enumerate(means)])

    def test_clashes_and_near_misses(self):
        scale = trio()
        for value in ([1, 3, 2], (1, 3, 2), [2, 6, 4], [half(1), half(3), 1], [Ratio(1), Ratio(31, 10), Ratio(21, 10)]):
            self.assertIs(is_clash(scale, CLASHING, value), True)
            self.assertIs(is_clash(value=value, facts=tuple(CLASHING), scale=scale), True)
        for value in ([1, 3, half(1)], [1, 3, 0], [1, 3], [1, 3, 2, 0], [0, 0, 0], [1, 2, 2], [1, 4, 0], [-1, -3, -2], [1, 3, -2],
                      [1, -3, 2], [True, 3, 2], [1, 3, 2.0], ["1", 3, 2], [1, 3, None], [[1, 3, 2]], [], 7, "132",
                      {"1": 3}, [3, 1, 2], [1, 4, 2], [0, 3, 2]):
            self.assertIs(is_clash(scale, CLASHING, value), False, value)
        # Where the sum is 0 at a value the numbers show nothing.
        facts = [("at most", [0, 1, 3], 0), ("at least", [0, 1, 3], 0)]
        for value in ([1, 0], [0, 1], [1, 1], [2, 1], [1, 2], [0, 0]):
            self.assertIs(is_clash(scale, facts, value), False)
        facts = [("is", [0, 1, 3], -1)]
        self.assertIs(is_clash(scale, facts, [1, 0]), True)
        self.assertIs(is_clash(scale, facts, [2, 1]), True)
        for value in ([1], [0, 1], [1, 1], [1, 2], [1, 0, 0], [1, -1]):
            self.assertIs(is_clash(scale, facts, value), False)
        for value in ([], (), [0], None):
            self.assertIs(is_clash(scale, [], value), False)

    def test_nothing_clashes_if_some_lot_fits(self):
        for scale, facts in some_facts()[:60]:
            if fitting(scale, facts) is not None:
                many = len(claims(scale, facts))
                for value in ([1] * many, [0] * many, list(range(many)), [half(k % 3) for k in range(many)]):
                    self.assertIs(is_clash(scale, facts, value), False)

    def test_judging_raises_nothing(self):
        for value in strange_values() + wrong_lists(3)[:-1]:
            self.assertIs(is_clash(trio(), CLASHING, value), False)
            self.assertIs(is_clash(trio(), [], value), False)


class Sure(Case):
    def test_bounds_against_all_corners(self):
        random = Random(4)
        seen = {True: 0, False: 0}
        for scale, facts in some_facts():
            just = fitting_corners(scale, facts)
            curve = [Ratio(random.randint(-5, 5), random.randint(1, 3)) for _ in range(len(scale))]
            seen[len(just) > 0] += 1
            if not just:
                self.assert_no_fit(clash(scale, facts), sure_bounds, scale, facts, curve)
                self.assert_no_fit(clash(scale, facts), needless, scale, facts)
                continue
            told = sure_bounds(scale, facts, curve)
            found = [mean_for(lot, curve) for lot in just]
            self.assertIs(type(told), tuple)
            self.assert_ratios(list(told), " ".join(texts(told)))
            self.assertEqual(plains(told), [min(found), max(found)])
        self.assertGreater(min(seen.values()), 15)

    def assert_no_fit(self, wanted, call, /, *values, **named):
        with self.assertRaises(NoFit) as caught:
            call(*values, **named)
        self.assertIs(type(caught.exception), NoFit)
        self.assertEqual(set(vars(caught.exception)), {"clash"})
        self.assert_ratios(caught.exception.clash, " ".join(texts(wanted)))

    def test_as_least_and_greatest_if_the_facts_tell_means(self):
        for scale in helpers.scales():
            for means, _ in means_that_lots_have(scale)[::6]:
                facts = [("is", power(scale, k + 1), number) for k, number in enumerate(means)]
                for curve in helpers.curves(scale)[3:6]:
                    wanted = least(scale, means, curve)[0], greatest(scale, means, curve)[0]
                    self.assertEqual(sure_bounds(scale, facts, curve), wanted)

    def test_covers_that_tell_the_lot(self):
        for scale in helpers.scales():
            lot = helpers.lots(scale)[-1]
            facts = [("is", cover(scale, mark), mean(scale, lot, cover(scale, mark))) for mark in scale.marks()]
            for curve in helpers.curves(scale)[3:6]:
                self.assertEqual(sure_bounds(scale, facts, curve), (mean(scale, lot, curve),) * 2)

    def test_some_bounds(self):
        scale = trio()
        self.assertEqual(texts(sure_bounds(scale, [], [2, -1, half(1)])), ["-1", "2"])
        self.assertEqual(texts(sure_bounds(scale, JUST_ONE, [0, 1, 0])), ["0", "0"])
        self.assertEqual(texts(sure_bounds(scale, CLASHING[:1], [0, 0, 1])), ["1/2", "1"])
        self.assertEqual(texts(sure_bounds(scale, tuple(CLASHING[:2]), (0, 1, 0))), ["1/2", "1/2"])
        self.assertEqual(texts(sure_bounds(curve=[1, 1, 1], facts=CLASHING[:1], scale=scale)), ["1", "1"])
        self.assertEqual(texts(sure_bounds(Scale([5]), [("at most", [1], 1)], [half(3)])), ["3/2", "3/2"])
        self.assertEqual(texts(sure_bounds(scale, [("at most", [0, 1, 3], 1), ("at least", [0, 1, 3], 1)], [0, 1, 9])),
                         ["1", "3"])

    def test_needless_against_all_corners(self):
        many = 0
        for scale, facts in some_facts():
            if not fitting_corners(scale, facts):
                continue
            wanted = []
            for at in range(len(facts)):
                others = [fact for k, fact in enumerate(facts) if k != at]
                heights = plain_claims([facts[at]])
                if all(mean_for(lot, row) <= 0 for lot in fitting_corners(scale, others) for row in heights):
                    wanted.append(at)
            self.assert_places(needless(scale, facts), wanted)
            many += len(wanted)
        self.assertGreater(many, 30)

    def test_some_needless_facts(self):
        scale = trio()
        mean_is = ("is", [0, 1, 3], 1)
        self.assert_places(needless(scale, []), [])
        self.assert_places(needless(scale, [mean_is]), [])
        self.assert_places(needless(scale, [mean_is, mean_is]), [0, 1])
        self.assert_places(needless(scale, (mean_is, ("is", (0, Ratio(1), 3), Ratio(1)), mean_is)), [0, 1, 2])
        self.assert_places(needless(scale, [mean_is, ("at most", [0, 1, 3], 1)]), [1])
        self.assert_places(needless(scale, [("at least", [0, 1, 3], 1), mean_is]), [0])
        self.assert_places(needless(scale, [("at most", [0, 1, 3], 2), ("at most", [0, 1, 3], 1)]), [0])
        self.assert_places(needless(scale, [("at most", [0, 1, 3], 1), ("at least", [0, 1, 3], 1)]), [])
        self.assert_places(needless(scale, [("at most", [0, 1, 3], 1), ("at least", [0, 1, 3], 1), mean_is]), [0, 1, 2])
        self.assert_places(needless(scale, [("is", [1, 1, 1], 1)]), [0])
        self.assert_places(needless(facts=[("at most", [0, 0, 1], 1), ("at least", [0, 0, 1], 0)], scale=scale), [0, 1])
        self.assert_places(needless(scale, [("at most", [0, 0, 1], Ratio(99, 100)), mean_is]), [0])
        self.assert_places(needless(Scale([5]), [("is", [7], 7), ("at least", [2], 1)]), [0, 1])

    def test_wrong_curves_ahead_of_no_fit(self):
        for facts in ([], JUST_ONE, CLASHING):
            for curve in wrong_curves():
                self.assert_bad(BadCurve, curve, sure_bounds, trio(), facts, curve)
                self.assert_bad(BadCurve, curve, sure_bounds, curve=curve, facts=facts, scale=trio())

    def test_no_fit(self):
        for scale in helpers.scales():
            facts = [("at most", scale.marks(), scale.marks()[0] - half(1)), ("is", [1] * len(scale), 1)]
            told = clash(scale, facts)
            self.assert_no_fit(told, sure_bounds, scale, facts, [0] * len(scale))
            self.assert_no_fit(told, sure_bounds, curve=scale.marks(), facts=tuple(facts), scale=scale)
            self.assert_no_fit(told, needless, scale, facts)
            self.assert_no_fit(told, needless, facts=tuple(facts), scale=scale)


class NothingChanges(Case):
    def calls(self, lot, prices, facts, curve, value):
        scale = trio()
        return [
            lambda: covers(scale, lot), lambda: lot_of_covers(scale, prices), lambda: fault(scale, prices),
            lambda: claims(scale, facts), lambda: fitting(scale, facts[:2]), lambda: clash(scale, facts),
            lambda: is_clash(scale, facts, value), lambda: sure_bounds(scale, facts[:2], curve),
            lambda: needless(scale, facts[:1]), lambda: clash(scale, facts[:2]), lambda: fitting(scale, facts),
            lambda: needless(scale, [*facts[:2], facts[0]]), lambda: fault(scale, curve),
        ]

    def given(self):
        facts = [("at least", [0, 1, Ratio(3)], 2), ("at most", [0, 0, 1], half(1)), ("is", [0, 1, 0], 0)]
        return [[half(1), 0, half(1)], [1, half(1), 0], facts, [1, Ratio(1), 0], [1, 3, Ratio(2), 0]]

    def test_what_is_passed_is_not_changed(self):
        given = self.given()
        before = helpers.repr_of(given)
        for call in self.calls(*given):
            call()
            self.assertEqual(helpers.repr_of(given), before)

    def test_what_is_returned_is_new(self):
        given = self.given()
        before = helpers.repr_of(given)
        for call in self.calls(*given):
            self.assert_new_lists(call)
            self.assertEqual(helpers.repr_of(given), before)

    def test_a_clash_in_an_error_is_new(self):
        def caught():
            try:
                needless(trio(), CLASHING)
            except NoFit as error:
                return error.clash
        self.assert_new_lists(caught)

    def test_equal_arguments_tell_equal_things(self):
        tuples = [
            (Ratio(2, 4), Ratio(0), half(1)), (Ratio(1), half(1), Ratio(0)),
            (("at least", (Ratio(0), 1, 3), Ratio(2)), ("at most", (0, 0, Ratio(1)), half(1)),
             ("is", (0, Ratio(1), 0), Ratio(0))),
            (Ratio(1), 1, Ratio(0)), (Ratio(1), 3, 2, Ratio(0)),
        ]
        for one, other in zip(self.calls(*self.given()), self.calls(*tuples)):
            self.assertEqual(helpers.repr_of(one()), helpers.repr_of(other()))

    def test_wrong_arguments_are_not_changed(self):
        for facts in ([("is", [0, 1, 3], [1])], [["is", [0, 1, 3], 1]], list(CLASHING)):
            before = helpers.repr_of(facts)
            for call in (lambda: needless(trio(), facts), lambda: sure_bounds(trio(), facts, [0, 1, 3])):
                with self.assertRaises(MeansError):
                    call()
            self.assertEqual(helpers.repr_of(facts), before)
