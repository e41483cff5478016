"""The places that the low lots, the high lots and the bars of so many means go by."""


def pairs_between(start, end, many):
    """The ascending lists of places, from a start to ahead of an end, that are so many pairs of neighbours."""
    if many == 0:
        return [[]]
    return [
        [place, place + 1, *others]
        for place in range(start, end - 1)
        for others in pairs_between(place + 2, end, many - 1)
    ]


def low_shapes(size, count):
    """All low forms for a number of means on a scale of a size, in ascending order."""
    if count % 2 == 0:
        return [[0, *pairs] for pairs in pairs_between(1, size, count // 2)]
    return pairs_between(0, size, (count + 1) // 2)


def high_shapes(size, count):
    """All high forms for a number of means on a scale of a size, in ascending order."""
    last = size - 1
    if count % 2 == 0:
        return [[*pairs, last] for pairs in pairs_between(0, last, count // 2)]
    return [[0, *pairs, last] for pairs in pairs_between(1, last, (count - 1) // 2)]
