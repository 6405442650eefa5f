"""Cases: lists of channels (sign, width, teeth, many), and what is told of them."""

from linecaster.errors import NoCase

SIGNS = "abcdefghijklmnopqrstuvwxyz.,-'"


def is_sign(text):
    # `in` alone would also take the text without signs and several signs in their order.
    return len(text) == 1 and text in SIGNS


def is_channel(channel):
    sign, width, teeth, many = channel
    return is_sign(sign) and 1 <= width <= 99 and 0 <= teeth <= 127 and 0 <= many <= 40


def can_stand(ahead, channel):
    # No count is needed: behind thirty channels no sign is left for one more.
    sign, width, teeth, many = channel
    return is_channel(channel) and channel_of(ahead, sign) is None and teeth not in codes_of(ahead)


def look_at_case(case):
    if len(case) == 0:
        raise NoCase(0)
    for at, channel in enumerate(case):
        if not can_stand(case[:at], channel):
            raise NoCase(at)


def channel_of(case, sign):
    for number, channel in enumerate(case):
        if channel[0] == sign:
            return number
    return None


def can_set(case, word):
    return word != "" and all([channel_of(case, sign) is not None for sign in word])


def width_of(case, word):
    return sum([case[channel_of(case, sign)][1] for sign in word])


def codes_of(case):
    return [teeth for sign, width, teeth, many in case]
