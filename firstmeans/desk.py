"""A live desk: a scale, means and named curves, and all deeds that can be taken back."""

from firstmeans.anycurve import span_over
from firstmeans.errors import (
    BadName, BadNumber, BadNumbers, BadText, BadValue, MeansError, NoName, NothingToRedo, NothingToUndo, TooMany,
)
from firstmeans.extremes import high_end, low_end
from firstmeans.known import MOST_MEANS, corners
from firstmeans.nexts import bottom_line, next_span
from firstmeans.ratios import as_ratio, is_number, read_ratio
from firstmeans.scales import MOST_VALUES, Scale, check_curve
from firstmeans.sums import finer

MOST_LETTERS = 8


class Desk:
    """A desk that is told means and curves, bit by bit."""

    def __init__(self, scale):
        # A tuple (scale, means, curves by their names). A deed puts a new one in its place and changes none, so the
        # old ones may be kept, and shared with twins.
        self._held = (scale, [], {})
        self._past = []
        self._future = []

    def __len__(self):
        return len(self._past)

    def _do(self, scale, means, curves):
        self._past.append(self._held)
        self._future = []
        self._held = (scale, means, curves)

    def _named(self, word):
        curves = self._held[2]
        if not isinstance(word, str) or word not in curves:
            raise NoName(word)
        return curves[word]

    def tell(self, number):
        """Tell the next mean."""
        scale, means, curves = self._held
        if len(means) == MOST_MEANS or len(means) + 1 == len(scale):
            raise TooMany(len(means))
        if not is_number(number) or not is_between(number, next_span(scale, means)):
            raise BadNumber(number)
        self._do(scale, [*means, as_ratio(number)], curves)

    def name(self, word, curve):
        """Give a curve a name, which another one may lose by that."""
        scale, means, curves = self._held
        if not is_name(word):
            raise BadName(word)
        check_curve(scale, curve)
        self._do(scale, means, {**curves, word: [as_ratio(number) for number in curve]})

    def drop(self, word):
        """Take a named curve away."""
        self._named(word)
        scale, means, curves = self._held
        self._do(scale, means, {kept: curve for kept, curve in curves.items() if kept != word})

    def put(self, value, numbers):
        """Put a value on the scale, at which each named curve has a number."""
        scale, means, curves = self._held
        if not is_number(value) or value in scale.marks() or len(scale) == MOST_VALUES:
            raise BadValue(value)
        if not are_for_names(curves, numbers):
            raise BadNumbers(numbers)
        wider = finer(scale, [value])
        place = wider.place(value)
        longer = {word: put_in(curve, place, numbers[word]) for word, curve in curves.items()}
        self._do(wider, means, longer)

    def scale(self):
        """The scale."""
        return self._held[0]

    def means(self):
        """The list of the means that have been told."""
        return list(self._held[1])

    def names(self):
        """The ascending list of the names."""
        return sorted([str(word) for word in self._held[2]])

    def curve(self, word):
        """The curve that has a name."""
        return list(self._named(word))

    def bounds(self, word):
        """A tuple of the least and the greatest mean of a named curve."""
        curve = self._named(word)
        scale, means, _ = self._held
        return span_over(corners(scale, means), curve)

    def line(self, word):
        """The points of the broken line of the least mean of a named curve, as the next mean goes up."""
        curve = self._named(word)
        scale, means, _ = self._held
        return bottom_line(scale, means, curve)

    def next(self):
        """A tuple of the least and the greatest number that the next mean can be."""
        scale, means, _ = self._held
        return next_span(scale, means)

    def ends(self):
        """A tuple of the low and the high lot."""
        scale, means, _ = self._held
        return low_end(scale, means)[1], high_end(scale, means)[1]

    def settled(self):
        """The ascending list of the names of the curves whose least and greatest mean are the same."""
        scale, means, curves = self._held
        lots = corners(scale, means)
        found = []
        for word in self.names():
            bottom, top = span_over(lots, curves[word])
            if bottom == top:
                found.append(word)
        return found

    def undo(self):
        """Take the last deed back."""
        if len(self._past) == 0:
            raise NothingToUndo()
        self._future.append(self._held)
        self._held = self._past.pop()

    def redo(self):
        """Do the deed again that was taken back last."""
        if len(self._future) == 0:
            raise NothingToRedo()
        self._past.append(self._held)
        self._held = self._future.pop()

    def tried(self, act):
        """What a function returns that is called with this desk, which is as before afterwards."""
        held, past, future = self._held, list(self._past), list(self._future)
        try:
            return act(self)
        finally:
            self._held, self._past, self._future = held, past, future

    def twin(self):
        """Another desk that has the same, but without deeds."""
        other = Desk(self._held[0])
        other._held = self._held
        return other

    def text(self):
        """The text of the scale, the means and the named curves, each in a line."""
        scale, means, curves = self._held
        rows = [("means", means)] + [(word, curves[word]) for word in self.names()]
        lines = [" ".join([word] + [number.text() for number in numbers]) for word, numbers in rows]
        return "\n".join([scale.text()] + lines)


def is_name(value):
    """Whether any value is a name: a string of 1 to 8 letters from a to z."""
    if not isinstance(value, str) or not 1 <= len(value) <= MOST_LETTERS:
        return False
    return all(["a" <= letter <= "z" for letter in value])


def is_between(number, span):
    """Whether a number is one from the first to the second one of a tuple."""
    start, end = span
    return start <= number and as_ratio(number) <= end


def are_for_names(curves, value):
    """Whether any value is a dict from the names of all curves, and nothing else, to numbers."""
    if not isinstance(value, dict) or len(value) != len(curves):
        return False
    return all([word in value and is_number(value[word]) for word in curves])


def put_in(curve, place, number):
    """A curve that has one number more, at a place."""
    longer = list(curve)
    longer.insert(place, as_ratio(number))
    return longer


def read_line(line):
    """A tuple of the first word of a line and of the numbers behind it."""
    words = line.split(" ")
    return words[0], [read_ratio(word) for word in words[1:]]


def read_desk(text):
    """A desk without deeds that has a text."""
    lines = text.split("\n")
    desk = Desk(Scale.read(lines[0]))
    rows = [read_line(line) for line in lines[1:]]
    # Done by deeds, so that just what a desk can have is read; the order of the lines is judged at the end.
    try:
        for _, means in rows[:1]:
            for number in means:
                desk.tell(number)
        for word, numbers in rows[1:]:
            desk.name(word, numbers)
    except MeansError:
        raise BadText() from None
    if desk.text() != text:
        raise BadText()
    return desk.twin()
