"""Loads and calendars for the tests, and what is reckoned of them straight from the document's words."""

from dueyard.calendars import Calendar

NO_WHOLE_NUMBERS = [True, False, None, "1", "", "a", 1.0, [1], [], (1,), {}, {1: 2}, b"1", object(), int]


def small_calendar(chance, most_machines=3):
    """Few rows; sometimes one that is told by others, which may have more of them."""
    rows = [(chance.randint(1, 4), chance.randint(0, most_machines)) for _ in range(chance.randint(0, 4))]
    calendar = Calendar(rows, chance.randint(1, most_machines))
    for _ in range(chance.choice([0, 0, 1, 3])):
        first = chance.randint(0, 12)
        calendar = calendar.fewer(first, first + chance.randint(0, 4), chance.randint(0, 2))
        first = chance.randint(0, 12)
        calendar = calendar.more(first, first + chance.randint(0, 4), chance.randint(0, 2))
    return calendar


def small_load(chance, jobs, turns=12, work=8, breadth=3):
    """Now and then a window is empty, or as another one's."""
    load = []
    for place in range(jobs):
        first = chance.randint(0, turns)
        last = max(-1, first + chance.randint(-2, turns // 2))
        if load and chance.random() < 0.2:
            first, last = load[-1][1:3]
        load.append((f"j{place}", first, last, chance.randint(1, work), chance.randint(1, breadth)))
    return load


def window(job):
    return set(range(job[1], job[2] + 1))


def turns_in(spans):
    return {turn for first, last in spans for turn in range(first, last + 1)}


def overflow_of_turns(load, calendar, turns):
    """The overflow of a small set of turns, as point 6 says it."""
    excesses = [max(0, job[3] - job[4] * len(window(job) - turns)) for job in load]
    return sum(excesses) - sum(calendar.at(turn) for turn in turns)
