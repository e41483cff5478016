"""One mean more: which numbers the next mean can be, and what is known of a curve then."""

from firstmeans.anycurve import check_asked
from firstmeans.curves import power
from firstmeans.errors import NotNext
from firstmeans.extremes import high_end, low_end
from firstmeans.known import check_means, check_some_lot, corners
from firstmeans.ratios import as_ratio, opposites, weighed
from firstmeans.scales import check_curve, distinct, insert_new


def next_span(scale, means):
    """A tuple such as next_range tells, of means that some lot has."""
    raised = power(scale, len(means) + 1)
    return weighed(low_end(scale, means)[1], raised), weighed(high_end(scale, means)[1], raised)


def next_range(scale, means):
    """A tuple of the least and the greatest number that the next mean can be."""
    check_means(scale, means)
    check_some_lot(scale, means)
    return next_span(scale, means)


def turns_up(first, middle, last):
    """Whether a line through three points, by ascending next means, is steeper behind the middle one."""
    before = (middle[1] - first[1]) * (last[0] - middle[0])
    return before < (last[1] - middle[1]) * (middle[0] - first[0])


def lower_line(points):
    """The broken line below some points, which are in ascending order."""
    line = []
    for point in points:
        if len(line) > 0 and line[-1][0] == point[0]:
            continue
        while len(line) > 1 and not turns_up(line[-2], line[-1], point):
            line.pop()
        line.append(point)
    return line


def bottom_line(scale, means, curve):
    """A list such as least_line tells, of means that some lot has."""
    # The lots are the mixtures of the corners, and so are the points (next mean, mean of the curve) of theirs.
    raised = power(scale, len(means) + 1)
    points = []
    for lot in corners(scale, means):
        insert_new(points, (weighed(lot, raised), weighed(lot, curve)))
    return lower_line(points)


def top_line(scale, means, curve):
    """A list such as greatest_line tells, of means that some lot has."""
    return [(number, -height) for number, height in bottom_line(scale, means, opposites(curve))]


def least_line(scale, means, curve):
    """The points of the broken line of the least mean of a curve, as the next mean goes up."""
    check_asked(scale, means, curve)
    return bottom_line(scale, means, curve)


def greatest_line(scale, means, curve):
    """The points of the broken line of the greatest mean of a curve, as the next mean goes up."""
    check_asked(scale, means, curve)
    return top_line(scale, means, curve)


def crossed(first, last, axis, number):
    """The point between two others, on the line through them, that has a number on an axis, 0 or 1."""
    part = (number - first[axis]).over(last[axis] - first[axis])
    return first[0] + (last[0] - first[0]) * part, first[1] + (last[1] - first[1]) * part


def height_at(line, number):
    """The mean of the curve at a next mean to which a broken line goes."""
    for first, last in zip(line, line[1:]):
        if number <= last[0]:
            return crossed(first, last, 0, number)[1]
    return line[0][1]


def at_next(scale, means, curve, number):
    """A tuple of the least and the greatest mean of a curve for all lots that have the means and a next mean."""
    check_means(scale, means)
    check_curve(scale, curve)
    across = as_ratio(number)
    check_some_lot(scale, means)
    start, end = next_span(scale, means)
    if across < start or end < across:
        raise NotNext(number)
    return height_at(bottom_line(scale, means, curve), across), height_at(top_line(scale, means, curve), across)


def next_for(scale, means, curve, bound):
    """A tuple of the least and the greatest next mean at which the mean of a curve can be at most a bound, or None."""
    check_means(scale, means)
    check_curve(scale, curve)
    most = as_ratio(bound)
    check_some_lot(scale, means)
    line = bottom_line(scale, means, curve)
    found = [number for number, height in line if height <= most]
    for first, last in zip(line, line[1:]):
        if (first[1] <= most) != (last[1] <= most):
            found.append(crossed(first, last, 1, most)[0])
    ordered = distinct(found)
    return (ordered[0], ordered[-1]) if len(ordered) > 0 else None
