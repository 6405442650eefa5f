"""Broken teeth: by which of them a matrix falls into a channel, and how many are broken at the fewest."""

from linecaster.bars import falls_at, has_all, number_of_teeth


def broken_sets(codes, channel, where):
    own = codes[channel]
    sets = [broken for broken in range(own + 1) if has_all(own, broken)]
    # Every broken tooth is an own one, so what is left is the difference of the numbers.
    return [broken for broken in sets if falls_at(codes, own - broken) == where]


def fewest_broken(codes, channel, where):
    return min([number_of_teeth(broken) for broken in broken_sets(codes, channel, where)], default=None)
