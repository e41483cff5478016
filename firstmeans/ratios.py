"""Exact quotients of two integers."""

from math import gcd

from firstmeans.errors import BadNumber, BadText, ByZero


class Ratio:
    """A quotient of two integers, kept in lowest terms; it never changes."""

    def __init__(self, top, bottom=1):
        if bottom == 0:
            raise ByZero()
        shared = gcd(top, bottom)
        if bottom < 0:
            shared = -shared
        self.top = top // shared
        self.bottom = bottom // shared

    def __add__(self, other):
        if not is_number(other):
            return NotImplemented
        number = as_ratio(other)
        return Ratio(self.top * number.bottom + number.top * self.bottom, self.bottom * number.bottom)

    def __sub__(self, other):
        if not is_number(other):
            return NotImplemented
        number = as_ratio(other)
        return Ratio(self.top * number.bottom - number.top * self.bottom, self.bottom * number.bottom)

    def __mul__(self, other):
        if not is_number(other):
            return NotImplemented
        number = as_ratio(other)
        return Ratio(self.top * number.top, self.bottom * number.bottom)

    def __neg__(self):
        return Ratio(-self.top, self.bottom)

    def __eq__(self, other):
        if not is_number(other):
            return False
        number = as_ratio(other)
        return self.top == number.top and self.bottom == number.bottom

    def __lt__(self, other):
        if not is_number(other):
            return NotImplemented
        number = as_ratio(other)
        return self.top * number.bottom < number.top * self.bottom

    def __le__(self, other):
        if not is_number(other):
            return NotImplemented
        number = as_ratio(other)
        return self.top * number.bottom <= number.top * self.bottom

    def over(self, number):
        """The quotient by a number other than 0."""
        divisor = as_ratio(number)
        return Ratio(self.top * divisor.bottom, self.bottom * divisor.top)

    def text(self):
        """The top and, unless it is 1, the bottom in decimal notation."""
        sign = "-" if self.top < 0 else ""
        top = sign + numeral(abs(self.top))
        if self.bottom == 1:
            return top
        return top + "/" + numeral(self.bottom)


def is_whole(value):
    """Whether any value is an integer; True and False are none."""
    return isinstance(value, int) and not isinstance(value, bool)


def is_number(value):
    """Whether any value is an integer or a Ratio."""
    return isinstance(value, Ratio) or is_whole(value)


def are_numbers(value):
    """Whether any value is a list of numbers, perhaps of none."""
    return isinstance(value, (list, tuple)) and all([is_number(item) for item in value])


def as_ratio(given):
    """The Ratio that is equal to a number."""
    if isinstance(given, Ratio):
        return given
    if is_whole(given):
        return Ratio(given)
    raise BadNumber(given)


def total(numbers):
    """The sum of a list of numbers, 0 of an empty one."""
    reached = Ratio(0)
    for number in numbers:
        reached = reached + number
    return reached


def weighed(numbers, weights):
    """The sum of the products of the numbers of two lists, place by place, as far as both go."""
    return total([as_ratio(number) * weight for number, weight in zip(numbers, weights)])


def opposites(numbers):
    """The list of the opposite numbers."""
    return [-as_ratio(number) for number in numbers]


def read_ratio(text):
    """The Ratio that has a text."""
    head, slash, tail = text.partition("/")
    digits = head.removeprefix("-")
    bottom = tail if slash == "/" else "1"
    if not has_digits_only(digits) or not has_digits_only(bottom) or bottom.startswith("0"):
        raise BadText()
    ratio = Ratio(from_numeral(digits), from_numeral(bottom))
    if head.startswith("-"):
        ratio = -ratio
    if ratio.text() != text:
        raise BadText()
    return ratio


def has_digits_only(word):
    """Whether a string consists of one or more of the digits 0 to 9."""
    return word.isascii() and word.isdigit()


def numeral(number):
    """The decimal notation of an integer from 0 on."""
    # In parts, because str() refuses integers of some thousands of digits.
    parts = []
    while number >= 10 ** 60:
        number, part = divmod(number, 10 ** 60)
        parts.append(str(part).zfill(60))
    parts.append(str(number))
    return "".join(parts[::-1])


def from_numeral(digits):
    """The integer with a decimal notation, perhaps with zeros ahead."""
    # In parts, because int() refuses strings of some thousands of digits.
    lead = len(digits) % 60
    number = int("0" + digits[:lead])
    for start in range(lead, len(digits), 60):
        number = number * 10 ** 60 + int(digits[start:start + 60])
    return number
