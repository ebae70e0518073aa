"""Offers: by which turn one job more can be done at the earliest, and how much of it finds room."""

from dueyard.errors import NoJob, NoPlan
from dueyard.jobs import MOST_WORK, check_load
from dueyard.searches import last_turn_wanted, least_kept, paper_of
from dueyard.verdicts import settled


def refuse_not_kept(load, calendar):
    if not settled(load, calendar).kept():
        raise NoPlan("the load is not kept without the job that is asked about")


def earliest(ahead, job, behind, calendar):
    name, first, last, work, breadth = job
    others = ahead + behind
    refuse_not_kept(others, calendar)

    def settled_until(turn):
        return settled(ahead + [(name, first, turn, work, breadth)] + behind, calendar)

    # The others keep their places, so a turn is wanted for each piece of their work, too.
    wanted = last_turn_wanted(calendar, [first], work + sum([other[3] for other in others]))
    least = least_kept(settled_until, first, wanted)
    return (least, settled_until(least).plan, paper_of(settled_until(least - 1)))


def offer(load, calendar, name, first, work, breadth=1):
    job = (name, first, first, work, breadth)
    check_load(load + [job])
    return earliest(load, job, [], calendar)


def soonest(load, calendar, name):
    check_load(load)
    for place, job in enumerate(load):
        if job[0] == name:
            return earliest(load[:place], job, load[place + 1:], calendar)
    raise NoJob(name)


def room(load, calendar, name, first, last, breadth=1):
    check_load(load + [(name, first, last, 1, breadth)])
    refuse_not_kept(load, calendar)

    def settled_with(amount):
        more = [(name, first, last, amount, breadth)] if amount > 0 else []
        return settled(load + more, calendar)

    most = settled_with(MOST_WORK)
    if most.kept():
        return (MOST_WORK, most.plan, None)
    # The load is kept, so a plan that leaves least undone may leave all that it lacks to the new job.
    work = MOST_WORK - most.lack
    return (work, settled_with(work).plan, paper_of(settled_with(work + 1)))
