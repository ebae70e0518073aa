"""Whole numbers, and sets of turns told as their spans."""

from dueyard.errors import NoSpans

MOST_HANDED_IN = 200
# 10 ** 10
LAST_TURN = 10000000000


def is_whole(thing):
    return isinstance(thing, int) and not isinstance(thing, bool)


def is_whole_between(thing, low, high):
    return is_whole(thing) and low <= thing <= high


def is_turn(thing):
    return is_whole_between(thing, 0, LAST_TURN)


def is_row(thing):
    if not isinstance(thing, tuple) or len(thing) != 2:
        return False
    return is_turn(thing[0]) and is_turn(thing[1]) and thing[0] <= thing[1]


def is_short_list(thing):
    return isinstance(thing, list) and len(thing) <= MOST_HANDED_IN


def merged(rows):
    spans = []
    for first, last in sorted(rows):
        # Touching spans are one span in the kept form, so the turn behind a span still belongs to it.
        if spans and first <= spans[-1][1] + 1:
            spans[-1] = (spans[-1][0], max(spans[-1][1], last))
        else:
            spans.append((first, last))
    return spans


def tidy(rows):
    if not is_short_list(rows) or not all([is_row(row) for row in rows]):
        raise NoSpans("this is no list of at most 200 tuples (first, last)")
    return merged(rows)


def spans_of(turns):
    if not is_short_list(turns) or not all([is_turn(turn) for turn in turns]):
        raise NoSpans("this is no list of at most 200 turns")
    return merged([(turn, turn) for turn in turns])


def common_count(first, last, low, high):
    return max(0, min(last, high) - max(first, low) + 1)


def has_turn(spans, turn):
    return any([first <= turn <= last for first, last in spans])


def turn_count(spans):
    return sum([last - first + 1 for first, last in spans])


def turn_count_in(spans, first, last):
    return sum([common_count(start, stop, first, last) for start, stop in spans])


def joined(one, other):
    return merged(one + other)


def shared(one, other):
    # Both sets are in the kept form, so no two of these pieces touch, and they come rising.
    pieces = []
    for first, last in one:
        for low, high in other:
            if common_count(first, last, low, high) > 0:
                pieces.append((max(first, low), min(last, high)))
    return pieces


def less(one, other):
    pieces = []
    for first, last in one:
        start = first
        for low, high in other:
            if common_count(start, last, low, high) > 0:
                if start < low:
                    pieces.append((start, low - 1))
                start = high + 1
        if start <= last:
            pieces.append((start, last))
    return pieces
