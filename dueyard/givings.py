"""Giving way: by how many turns, or for how many machines more, a load is kept."""

from dueyard.errors import TooLong
from dueyard.jobs import check_load, later, turns_of
from dueyard.searches import last_turn_wanted, least_kept, paper_of
from dueyard.verdicts import settled


def least_from_nothing(settle, high):
    least = least_kept(settle, 0, high)
    paper = None if least == 0 else paper_of(settle(least - 1))
    return (least, settle(least).plan, paper)


def most_late(load, calendar):
    work = sum([job[3] for job in load])
    wanted = last_turn_wanted(calendar, [job[1] for job in load], work)
    return max([max(0, wanted - job[2]) for job in load], default=0)


def lateness(load, calendar):
    check_load(load)
    return least_from_nothing(lambda by: settled(later(load, by), calendar), most_late(load, calendar))


def refuse_too_long(load):
    for job in load:
        if job[3] > job[4] * turns_of(job):
            raise TooLong(job[0])


def fewest(load, calendar):
    check_load(load)
    refuse_too_long(load)
    # With all breadths together no job stands in the way of another one.
    breadths = sum([job[4] for job in load])
    return least_from_nothing(lambda many: settled(load, calendar.widened(many)), breadths)
