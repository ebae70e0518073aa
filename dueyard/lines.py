"""Texts: numbers, spans, plans and loads, told and read again."""

from dueyard.errors import NoLine
from dueyard.jobs import is_name

FIGURES = "0123456789"
MOST_FIGURES = 11
# The text for none at all.
NOTHING = "-"


def are_figures(word):
    if not 1 <= len(word) <= MOST_FIGURES or not all([sign in FIGURES for sign in word]):
        return False
    return word[0] != "0" or word == "0"


def number_in(word):
    if not are_figures(word):
        raise NoLine("a word is no figures")
    return int(word)


def last_in(word):
    return -1 if word == "-1" else number_in(word)


def name_in(word):
    if not is_name(word):
        raise NoLine("a word is no name")
    return word


def words_text(words):
    return " ".join([str(word) for word in words]) if words else NOTHING


def rows_text(rows):
    return "; ".join([words_text(row) for row in rows]) if rows else NOTHING


def spans_text(spans):
    return words_text([f"{first}-{last}" for first, last in spans])


def plan_text(plan):
    return rows_text(plan)


def load_text(load):
    return rows_text(load)


def span_in(word):
    first, minus, last = word.partition("-")
    return (number_in(first), number_in(last))


def spans_in(text):
    if text == NOTHING:
        return []
    spans = [span_in(word) for word in text.split(" ")]
    # Far enough ahead that the first span may begin at 0.
    behind = -2
    for first, last in spans:
        if first > last or first < behind + 2:
            raise NoLine("spans are rising and part from one another")
        behind = last
    return spans


def rows_in(text, words):
    if text == NOTHING:
        return []
    rows = [row.split(" ") for row in text.split("; ")]
    if any([len(row) != words for row in rows]):
        raise NoLine("a row has words more or fewer")
    return rows


def plan_in(text):
    return [(number_in(turn), number_in(machine), name_in(name)) for turn, machine, name in rows_in(text, 3)]


def job_in(row):
    name, first, last, work, breadth = row
    return (name_in(name), number_in(first), last_in(last), number_in(work), number_in(breadth))


def load_in(text):
    return [job_in(row) for row in rows_in(text, 5)]
