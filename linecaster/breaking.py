"""Breaks: the cheapest way to break words into lines that can be set."""

from linecaster.cases import width_of
from linecaster.errors import NoBreak
from linecaster.lines import body_of, misfit


def cost_of(spare, many, gaps, last):
    low, ideal, high = gaps
    off = spare - many * ideal
    if last and off >= 0:
        return 0
    return off * off if misfit(spare, many, gaps) == 0 else None


def line_cost(case, line, measure, gaps, last):
    return cost_of(measure - body_of(case, line), len(line) - 1, gaps, last)


def costs_of(case, words, measure, gaps):
    """The costs of all lines that can be set, by where they start and end: those that end with all as last lines."""
    # Widths are asked once a word: each word stands in many of these lines.
    widths = [width_of(case, word) for word in words]
    costs = {}
    for start in range(len(words)):
        spare = measure
        for end in range(start + 1, len(words) + 1):
            spare = spare - widths[end - 1]
            cost = cost_of(spare, end - start - 1, gaps, end == len(words))
            if cost is not None:
                costs[(start, end)] = cost
    return costs


def can_follow(costs, table, start, end):
    return (start, end) in costs and table[end] is not None


def choices(costs, table, start):
    """Tuples (cost, end): what the words from start on cost at the least, where their first line ends there."""
    ends = [end for end in range(start + 1, len(table)) if can_follow(costs, table, start, end)]
    return [(costs[(start, end)] + table[end], end) for end in ends]


def table_of(costs, many):
    table = [None] * many + [0]
    for start in range(many - 1, -1, -1):
        table[start] = min([cost for cost, end in choices(costs, table, start)], default=None)
    return table


def most_in_full_lines(costs, many):
    # Asked only of words that can't be broken: so no last line is reached, and all lines on the way are full ones.
    reached = [0]
    for end in range(1, many + 1):
        if any([(start, end) in costs for start in reached]):
            reached.append(end)
    return reached[-1]


def breaks_of(case, words, measure, gaps):
    costs = costs_of(case, words, measure, gaps)
    table = table_of(costs, len(words))
    if table[0] is None:
        raise NoBreak(most_in_full_lines(costs, len(words)))
    breaks = []
    at = 0
    while at < len(words):
        at = max([end for cost, end in choices(costs, table, at) if cost == table[at]])
        breaks.append(at)
    return breaks


def break_table(case, words, measure, gaps):
    return table_of(costs_of(case, words, measure, gaps), len(words))


def broken_lines(words, breaks):
    return [words[start:end] for start, end in zip([0] + breaks, breaks)]
