"""Looks: what was cast, held against the lines that the keys tell."""

from linecaster.keys import lines_of


def first_place_unlike(one, other):
    place = 0
    while place < min(len(one), len(other)) and one[place] == other[place]:
        place = place + 1
    return place


def first_unlike(case, keys, slugs):
    texts = [" ".join(line) for line in lines_of(case, keys)]
    for number, pair in enumerate(zip(texts, slugs)):
        text, slug = pair
        if text != slug:
            return (number, first_place_unlike(text, slug))
    if len(texts) != len(slugs):
        # All that stand on both sides are alike: the next one lacks or is one too many.
        return (min(len(texts), len(slugs)), 0)
    return None
