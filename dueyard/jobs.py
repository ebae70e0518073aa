"""Jobs, tuples (name, first, last, work, breadth), and loads, lists of jobs."""

from dueyard.errors import NoName, NoNumber, TooMany, Twice
from dueyard.spans import LAST_TURN, is_whole_between, turn_count_in

LETTERS = "abcdefghijklmnopqrstuvwxyz"
LETTERS_AND_FIGURES = "abcdefghijklmnopqrstuvwxyz0123456789"
MOST_SIGNS = 8
MOST_JOBS = 12
# 10 ** 9
LATEST_FIRST = 1000000000
MOST_WORK = 60
MOST_BREADTH = 16


def is_name(thing):
    if not isinstance(thing, str) or not 1 <= len(thing) <= MOST_SIGNS:
        return False
    return thing[0] in LETTERS and all([sign in LETTERS_AND_FIGURES for sign in thing])


def are_numbers_of_job(first, last, work, breadth):
    if not is_whole_between(first, 0, LATEST_FIRST) or not is_whole_between(last, -1, LAST_TURN):
        return False
    return is_whole_between(work, 1, MOST_WORK) and is_whole_between(breadth, 1, MOST_BREADTH)


def check_load(load):
    if len(load) > MOST_JOBS:
        raise TooMany("a load has at most 12 jobs")
    names = []
    for name, first, last, work, breadth in load:
        if not is_name(name):
            raise NoName("the name of a job is no name")
        if name in names:
            raise Twice(name)
        if not are_numbers_of_job(first, last, work, breadth):
            raise NoNumber(f"the numbers of the job {name} are out of bounds")
        names.append(name)
    return True


def turns_of(job):
    return max(0, job[2] - job[1] + 1)


def within(job, spans):
    return turn_count_in(spans, job[1], job[2])


def outside(job, spans):
    return turns_of(job) - within(job, spans)


def excess(job, spans):
    return max(0, job[3] - job[4] * outside(job, spans))


def later(load, by):
    return [(name, first, last + by, work, breadth) for name, first, last, work, breadth in load]
