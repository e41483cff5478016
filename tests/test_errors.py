"""The error classes [9] [11]."""

from firstmeans import errors
from firstmeans.errors import MeansError
from firstmeans.ratios import Ratio
from tests.helpers import Case, odd_values, strange_values

WITHOUT = "ByZero BadText NothingToUndo NothingToRedo".split()
WITH_GIVEN = (
    "BadNumber BadValues NoValue BadLot BadCurve BadCurves BadWeights BadCount BadPlaces BadPlace BadOrder "
    "BadNumbers BadPolynomial BadMeans BadLots BadFact NotNext BadName NoName BadValue"
).split()
OTHERS = {"NoLot": "bar", "NotBent": "order", "TooMany": "count", "NoFit": "clash"}


class ErrorClasses(Case):
    def with_attributes(self):
        rows = [(name, "given") for name in WITH_GIVEN] + list(OTHERS.items())
        return [(getattr(errors, name), attribute) for name, attribute in rows]

    def test_the_file_has_just_these_classes(self):
        found = sorted(name for name, kind in vars(errors).items() if isinstance(kind, type))
        self.assertEqual(found, sorted(["MeansError"] + WITHOUT + WITH_GIVEN + list(OTHERS)))

    def test_bases(self):
        self.assertEqual(MeansError.__bases__, (ValueError,))
        for name in WITHOUT + WITH_GIVEN + list(OTHERS):
            self.assertEqual(getattr(errors, name).__bases__, (MeansError,), name)

    def test_without_attributes(self):
        for name in ["MeansError"] + WITHOUT:
            kind = getattr(errors, name)
            self.assertIs(type(kind()), kind)
            self.assertEqual(vars(kind()), {})

    def test_attributes_by_position_and_by_name(self):
        values = odd_values() + strange_values() + [0, -7, 10 ** 60, Ratio(-1, 3), [1, 2], (3, Ratio(1, 2))]
        for kind, attribute in self.with_attributes():
            for value in values:
                for error in (kind(value), kind(**{attribute: value})):
                    self.assertIs(getattr(error, attribute), value)
                    self.assertEqual(list(vars(error)), [attribute])

    def test_attributes_are_needed(self):
        for kind, attribute in self.with_attributes():
            with self.assertRaises(TypeError):
                kind()
            with self.assertRaises(TypeError):
                kind(**{attribute: 1, "other": 2})

    def test_kept_as_passed_also_if_it_changes_later(self):
        for kind, attribute in self.with_attributes():
            value = [1, [2]]
            error = kind(value)
            self.assertEqual(value, [1, [2]])
            value[1].append(3)
            self.assertEqual(getattr(error, attribute), [1, [2, 3]])

    def test_raised_and_caught(self):
        for kind, attribute in self.with_attributes():
            for family in (kind, MeansError, ValueError):
                with self.assertRaises(family) as caught:
                    raise kind(None)
                self.assertIsNone(getattr(caught.exception, attribute))
