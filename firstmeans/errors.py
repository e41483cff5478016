"""The errors that the package raises."""


class MeansError(ValueError):
    """Any error of the package."""


class ByZero(MeansError):
    """A quotient by 0 was asked for."""


class BadText(MeansError):
    """A string is not the text of what was to be read."""


class NothingToUndo(MeansError):
    """No deed of a desk is there to be taken back."""


class NothingToRedo(MeansError):
    """No deed of a desk is there to be done again."""


class BadNumber(MeansError):
    """A value is no number that fits."""

    def __init__(self, given):
        self.given = given


class BadValues(MeansError):
    """A value is no list of values for a scale."""

    def __init__(self, given):
        self.given = given


class NoValue(MeansError):
    """A value does not stand on the scale."""

    def __init__(self, given):
        self.given = given


class BadLot(MeansError):
    """A value is no lot of the scale."""

    def __init__(self, given):
        self.given = given


class BadCurve(MeansError):
    """A value is no curve that fits."""

    def __init__(self, given):
        self.given = given


class BadCurves(MeansError):
    """A value is no list of one or more curves."""

    def __init__(self, given):
        self.given = given


class BadWeights(MeansError):
    """A value is no list of weights that fit."""

    def __init__(self, given):
        self.given = given


class BadCount(MeansError):
    """A value is no count that fits."""

    def __init__(self, given):
        self.given = given


class BadPlaces(MeansError):
    """A value is no list of places of the scale."""

    def __init__(self, given):
        self.given = given


class BadPlace(MeansError):
    """A value is no place that fits."""

    def __init__(self, given):
        self.given = given


class BadOrder(MeansError):
    """A value is no order that fits."""

    def __init__(self, given):
        self.given = given


class BadNumbers(MeansError):
    """A value holds not the numbers that were asked for."""

    def __init__(self, given):
        self.given = given


class BadPolynomial(MeansError):
    """A value is no polynomial that fits."""

    def __init__(self, given):
        self.given = given


class BadMeans(MeansError):
    """A value is no list of means of the scale."""

    def __init__(self, given):
        self.given = given


class BadLots(MeansError):
    """A value is no list of one or more lots."""

    def __init__(self, given):
        self.given = given


class BadFact(MeansError):
    """A value is no fact of the scale."""

    def __init__(self, given):
        self.given = given


class NotNext(MeansError):
    """A number can not be the next mean."""

    def __init__(self, given):
        self.given = given


class BadName(MeansError):
    """A value is no name."""

    def __init__(self, given):
        self.given = given


class NoName(MeansError):
    """A value is no name of a curve here."""

    def __init__(self, given):
        self.given = given


class BadValue(MeansError):
    """A value can not be put on the scale."""

    def __init__(self, given):
        self.given = given


class NoLot(MeansError):
    """No lot has the means, as a bar shows."""

    def __init__(self, bar):
        self.bar = bar


class NotBent(MeansError):
    """A curve bends neither up nor down in an order."""

    def __init__(self, order):
        self.order = order


class TooMany(MeansError):
    """There are too many values or means."""

    def __init__(self, count):
        self.count = count


class NoFit(MeansError):
    """No lot fits the facts, as a clash shows."""

    def __init__(self, clash):
        self.clash = clash
