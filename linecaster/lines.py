"""Lines: a line's body, and the width of its gaps by which it comes to its measure."""

from linecaster.cases import width_of
from linecaster.errors import Loose, Tight


def body_of(case, line):
    return sum([width_of(case, word) for word in line])


def misfit(spare, many, gaps):
    """Units that lack with so many gaps of high; below 0, those too many with gaps of low; 0 where a gap fits."""
    low, ideal, high = gaps
    if spare > many * high:
        return spare - many * high
    return min(spare - many * low, 0)


def greatest_divisor(one, other):
    while other != 0:
        one, other = other, one % other
    return one


def lowest_terms(top, bottom):
    divisor = greatest_divisor(top, bottom)
    return (top // divisor, bottom // divisor)


def full_gap(case, line, measure, gaps):
    many = len(line) - 1
    spare = measure - body_of(case, line)
    off = misfit(spare, many, gaps)
    if off > 0:
        raise Loose(off)
    if off < 0:
        raise Tight(-off)
    # One word has no gap to divide by.
    return lowest_terms(spare, many) if many > 0 else (0, 1)


def last_gap(case, line, measure, gaps):
    low, ideal, high = gaps
    if body_of(case, line) + (len(line) - 1) * ideal <= measure:
        return (ideal, 1)
    return full_gap(case, line, measure, gaps)
