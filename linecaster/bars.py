"""The bar: where a matrix falls by its teeth, and codes by which each falls right."""

from linecaster.errors import TooMany


def has_all(teeth, others):
    return (teeth & others) == others


def falls_at(codes, teeth):
    for channel, code in enumerate(codes):
        if has_all(code, teeth):
            return channel
    return None


def wrong_falls(codes):
    falls = [(channel, falls_at(codes, code)) for channel, code in enumerate(codes)]
    return [fall for fall in falls if fall[0] != fall[1]]


def number_of_teeth(teeth):
    return sum([(teeth >> place) & 1 for place in range(teeth.bit_length())])


def rank_of(teeth):
    # A code that has all teeth of an unlike one has more of them, so it comes behind it.
    return (number_of_teeth(teeth), teeth)


def put_right(codes):
    return sorted(codes, key=rank_of)


def all_codes(teeth):
    bound = 1
    for tooth in range(teeth):
        bound = bound * 2
    return list(range(bound))


def first_codes(many, teeth):
    codes = put_right(all_codes(teeth))
    if many > len(codes):
        raise TooMany(f"there are not {many} codes of {teeth} teeth")
    return codes[:many]
