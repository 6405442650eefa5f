"""Matrices: tuples (sign, teeth), as they lie in the channels of a case at first."""

from linecaster.bars import has_all
from linecaster.errors import NoCase


def can_break(case, ahead, channel, teeth):
    """Whether one more matrix of a channel can have these teeth broken, behind those of the channels ahead."""
    if not 0 <= channel < len(case):
        return False
    sign, width, own, many = case[channel]
    return ahead.count(channel) < many and teeth >= 1 and has_all(own, teeth)


def channels_of(case, broken):
    channels = [[(sign, teeth)] * many for sign, width, teeth, many in case]
    ahead = []
    for at, part in enumerate([] if broken is None else broken):
        channel, lost = part
        if not can_break(case, ahead, channel, lost):
            raise NoCase(at)
        sign, width, own, many = case[channel]
        channels[channel][ahead.count(channel)] = (sign, own - lost)
        ahead.append(channel)
    return channels
