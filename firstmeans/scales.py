"""Scales, and the lots and curves of a scale."""

from firstmeans.errors import BadCount, BadCurve, BadLot, BadNumber, BadText, BadValues, NoValue
from firstmeans.ratios import are_numbers, as_ratio, is_number, is_whole, read_ratio, total, weighed

MOST_VALUES = 8
MOST_POWERS = 8


class Scale:
    """1 to 8 different values in ascending order; it never changes."""

    def __init__(self, values):
        if not are_numbers(values) or not 1 <= len(values) <= MOST_VALUES:
            raise BadValues(values)
        self._marks = distinct(values)
        if len(self._marks) < len(values):
            raise BadValues(values)

    def __len__(self):
        return len(self._marks)

    def __eq__(self, other):
        return isinstance(other, Scale) and self._marks == other._marks

    def marks(self):
        """The ascending list of the values."""
        return list(self._marks)

    def place(self, value):
        """The place of a value."""
        for place, mark in enumerate(self._marks):
            if mark == value:
                return place
        raise NoValue(value)

    def led(self, factor, add):
        """The scale of all values, multiplied with a factor and a number added."""
        if not is_number(factor) or factor == 0:
            raise BadNumber(factor)
        if not is_number(add):
            raise BadNumber(add)
        return Scale([mark * factor + add for mark in self._marks])

    def text(self):
        """The texts of the values, separated by single spaces."""
        return " ".join([mark.text() for mark in self._marks])

    @classmethod
    def read(cls, text):
        """The scale that has a text."""
        marks = [read_ratio(word) for word in text.split(" ")]
        if len(marks) > MOST_VALUES or not climbs(marks):
            raise BadText()
        return cls(marks)


def insert_new(ordered, item):
    """Insert a Ratio, or a list or tuple of Ratios, into an ascending list of such, unless it is there."""
    # By hand, because Ratios, which also compare with integers, go beyond what may be sorted.
    place = 0
    while place < len(ordered) and ordered[place] < item:
        place += 1
    if place == len(ordered) or ordered[place] != item:
        ordered.insert(place, item)


def distinct(numbers):
    """The ascending list of the Ratios of a list of numbers, each of them once."""
    found = []
    for number in numbers:
        insert_new(found, as_ratio(number))
    return found


def climbs(ratios):
    """Whether each Ratio of a list is greater than the one ahead of it."""
    return all([before < behind for before, behind in zip(ratios, ratios[1:])])


def is_curve(scale, value):
    """Whether any value is a curve of a scale: a number for each value."""
    return are_numbers(value) and len(value) == len(scale)


def are_shares(value, many):
    """Whether any value is a list of so many numbers from 0 on that sum to 1."""
    if not are_numbers(value) or len(value) != many:
        return False
    return all([0 <= as_ratio(share).top for share in value]) and total(value) == 1


def is_lot(scale, value):
    """Whether any value is a lot of a scale: a share for each value."""
    return are_shares(value, len(scale))


def check_lot(scale, lot):
    """Raise BadLot for any value that is no lot of a scale."""
    if not is_lot(scale, lot):
        raise BadLot(lot)


def check_curve(scale, curve):
    """Raise BadCurve for any value that is no curve of a scale."""
    if not is_curve(scale, curve):
        raise BadCurve(curve)


def mean(scale, lot, curve):
    """The mean of a curve for a lot."""
    check_lot(scale, lot)
    check_curve(scale, curve)
    return weighed(lot, curve)


def means_of(scale, lot, count):
    """The list of the first means of a lot, as many as the count tells."""
    check_lot(scale, lot)
    if not is_whole(count) or not 0 <= count <= MOST_POWERS:
        raise BadCount(count)
    marks = scale.marks()
    parts = [as_ratio(share) for share in lot]
    means = []
    for _ in range(count):
        parts = [part * mark for part, mark in zip(parts, marks)]
        means.append(total(parts))
    return means


def uses(scale, lot):
    """The ascending list of the places of the values that a lot uses."""
    check_lot(scale, lot)
    return [place for place, share in enumerate(lot) if not share == 0]
