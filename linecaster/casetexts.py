"""Texts of cases: one row for each channel, its sign, width, teeth and number of matrices."""

from linecaster.cases import look_at_case
from linecaster.copies import is_number
from linecaster.errors import NoText

NUMBER_OF_TEETH = 7


def is_teeth(word):
    return len(word) == NUMBER_OF_TEETH and all([figure in "01" for figure in word])


def read_teeth(word):
    teeth = 0
    for figure in word:
        teeth = teeth * 2 + int(figure)
    return teeth


def shown_teeth(teeth):
    return "".join([str((teeth >> place) & 1) for place in range(NUMBER_OF_TEETH - 1, -1, -1)])


def is_row(words):
    if len(words) != 4:
        return False
    sign, width, teeth, many = words
    return sign != "" and is_number(width) and is_teeth(teeth) and is_number(many)


def read_row(at, row):
    words = row.split(" ")
    if not is_row(words):
        raise NoText(f"the row with the number {at} is not a sign, a width, seven teeth and a number")
    sign, width, teeth, many = words
    return (sign, int(width), read_teeth(teeth), int(many))


def read_case(text):
    case = [read_row(at, row) for at, row in enumerate(text.split("\n"))]
    look_at_case(case)
    return case


def shown_row(channel):
    sign, width, teeth, many = channel
    return " ".join([sign, str(width), shown_teeth(teeth), str(many)])


def shown_case(case):
    return "\n".join([shown_row(channel) for channel in case])
