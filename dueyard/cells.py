"""Cells: the stretches of a load's turns that are alike to all its jobs and to the calendar."""

from dueyard.jobs import check_load, turns_of


def is_in_a_window(load, turn):
    return any([first <= turn <= last for name, first, last, work, breadth in load])


def borders(load, calendar):
    # A window that is not empty has other jobs on the two sides of each of its ends,
    # and a calendar tells its changes alone, so no border parts turns that belong together.
    told = []
    for job in load:
        if turns_of(job) > 0:
            told.extend([job[1], job[2] + 1])
            told.extend(calendar.changes(job[1], job[2]))
    return sorted(set(told))


def cells(load, calendar):
    check_load(load)
    told = []
    turns = borders(load, calendar)
    for start, stop in zip(turns, turns[1:]):
        if is_in_a_window(load, start):
            told.append((start, stop - 1, calendar.at(start)))
    return told


def cells_within(job, some):
    return [place for place, cell in enumerate(some) if job[1] <= cell[0] and cell[1] <= job[2]]
