"""Loads and calendars for the tests, and what is reckoned of them straight from the document's words."""

import itertools
import unittest

from dueyard.calendars import Calendar
from dueyard.errors import NoName, NoNumber, TooMany, Twice

NO_WHOLE_NUMBERS = [True, False, None, "1", "", "a", 1.0, [1], [], (1,), {}, {1: 2}, b"1", object(), int]

# What check_load refuses, each with the class of its refusal.
NO_LOADS = [
    ([(f"j{place}", 0, 1, 1, 1) for place in range(13)], TooMany),
    ([("A", 0, 1, 0, 1)] * 13, TooMany),
    ([("A", 0, 1, 0, 1)], NoName),
    ([("", 0, 1, 1, 1)], NoName),
    ([(None, 0, 1, 1, 1)], NoName),
    ([("a", 0, 1, 1, 1), ("a", 0, 1, 0, 1)], Twice),
    ([("a", 0, 1, 0, 1)], NoNumber),
    ([("a", 0, 1, 61, 1)], NoNumber),
    ([("a", -1, 1, 1, 1)], NoNumber),
    ([("a", 0, -2, 1, 1)], NoNumber),
    ([("a", 0, 10 ** 10 + 1, 1, 1)], NoNumber),
    ([("a", 10 ** 9 + 1, 10 ** 10, 1, 1)], NoNumber),
    ([("a", 0, 1, 1, 17)], NoNumber),
    ([("a", 0, 1, 1, True)], NoNumber),
    ([("a", None, 1, 1, 1)], NoNumber),
]


def small_calendar(chance, most_machines=3):
    """Few rows; sometimes one that is told by others, which may have more of them."""
    rows = [(chance.randint(1, 4), chance.randint(0, most_machines)) for _ in range(chance.randint(0, 4))]
    calendar = Calendar(rows, chance.randint(1, most_machines))
    for _ in range(chance.choice([0, 0, 1, 3])):
        first = chance.randint(0, 12)
        calendar = calendar.fewer(first, first + chance.randint(0, 4), chance.randint(0, 2))
        first = chance.randint(0, 12)
        calendar = calendar.more(first, first + chance.randint(0, 4), chance.randint(0, 2))
    return calendar


def small_load(chance, jobs, turns=12, work=8, breadth=3):
    """Now and then a window is empty, or as another one's."""
    load = []
    for place in range(jobs):
        first = chance.randint(0, turns)
        last = max(-1, first + chance.randint(-2, turns // 2))
        if load and chance.random() < 0.2:
            first, last = load[-1][1:3]
        load.append((f"j{place}", first, last, chance.randint(1, work), chance.randint(1, breadth)))
    return load


def window(job):
    return set(range(job[1], job[2] + 1))


def turns_in(spans):
    return {turn for first, last in spans for turn in range(first, last + 1)}


def overflow_of_turns(load, calendar, turns):
    """The overflow of a small set of turns, as point 6 says it."""
    excesses = [max(0, job[3] - job[4] * len(window(job) - turns)) for job in load]
    return sum(excesses) - sum(calendar.at(turn) for turn in turns)


def least_undone(load, calendar):
    """The least work that any laying leaves undone, by going through all of them, turn by turn."""
    left = {tuple(job[3] for job in load)}
    for turn in sorted(set().union(*[window(job) for job in load])):
        most = [job[4] if turn in window(job) else 0 for job in load]
        choices = [some for some in itertools.product(*[range(many + 1) for many in most])
                   if sum(some) <= calendar.at(turn)]
        left = {tuple(have - less for have, less in zip(state, some))
                for state in left for some in choices if all(less <= have for have, less in zip(state, some))}
    return min(sum(state) for state in left)


def greatest_overflow(load, calendar):
    turns = sorted(set().union(*[window(job) for job in load]))
    subsets = itertools.chain.from_iterable(itertools.combinations(turns, many) for many in range(len(turns) + 1))
    return max(overflow_of_turns(load, calendar, set(some)) for some in subsets)


def faults_by_words(load, calendar, plan):
    """The faults of a plan as point 43 says them, row by row."""
    told = []
    for index, (turn, machine, name) in enumerate(plan):
        ahead = plan[:index]
        own = [job for job in load if job[0] == name]
        checks = [
            ("name", lambda: not own),
            ("window", lambda: not own[0][1] <= turn <= own[0][2]),
            ("machine", lambda: machine not in range(calendar.at(turn))),
            ("taken", lambda: any(row[:2] == (turn, machine) for row in ahead)),
            ("breadth", lambda: sum(row[0] == turn and row[2] == name for row in ahead) >= own[0][4]),
            ("work", lambda: sum(row[2] == name for row in ahead) >= own[0][3]),
        ]
        told += [(index, word) for word, fits in checks if fits()][:1] if own else [(index, "name")]
    return told


def undone_by_words(load, plan):
    return [max(0, job[3] - sum(row[2] == job[0] for row in plan)) for job in load]


def does_all(load, calendar, plan):
    """Whether the plan is a rising one that does all work of the load without a fault."""
    rising = plan == sorted(plan)
    return rising and faults_by_words(load, calendar, plan) == [] and not any(undone_by_words(load, plan))


def is_kept_form(spans):
    """The form of point 3."""
    rising = all(one[1] + 2 <= other[0] for one, other in zip(spans, spans[1:]))
    return rising and all(len(span) == 2 and 0 <= span[0] <= span[1] for span in spans)


def turns_outside(job, spans):
    return job[2] - job[1] + 1 - sum(max(0, min(last, job[2]) - max(first, job[1]) + 1) for first, last in spans)


def excess_by_words(job, spans):
    """Point 6, for windows and spans of any length."""
    return max(0, job[3] - job[4] * (turns_outside(job, spans) if job[1] <= job[2] else 0))


def overflow_by_words(load, calendar, spans):
    machines = sum(calendar.over(first, last) for first, last in spans)
    return sum(excess_by_words(job, spans) for job in load) - machines


def is_paper(paper, load, calendar):
    """Whether the paper shows that the load is not kept: spans that overflow, and the names of their jobs."""
    spans, names = paper
    if not (paper.__class__ is tuple and spans.__class__ is list and names.__class__ is list):
        return False
    if not is_kept_form(spans) or overflow_by_words(load, calendar, spans) <= 0:
        return False
    return names == [job[0] for job in load if excess_by_words(job, spans) > 0]


def laid_later(load, by):
    return [(name, first, last + by, work, breadth) for name, first, last, work, breadth in load]


class Refusing(unittest.TestCase):
    def check_refused(self, error, tell, *handed_in):
        """The error is of this very class, and the lists that were handed in stay."""
        ahead = [list(thing) if isinstance(thing, list) else thing for thing in handed_in]
        with self.assertRaises(error) as caught:
            tell(*handed_in)
        self.assertIs(caught.exception.__class__, error)
        self.assertEqual(list(handed_in), ahead)
        return caught.exception

    def check_refuses_no_loads(self, tell, *others):
        for load, error in NO_LOADS:
            self.check_refused(error, tell, load, *others)
