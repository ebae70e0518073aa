"""Calendars: how many machines there are at each turn."""

from dueyard.errors import NoCalendar
from dueyard.spans import common_count, is_whole_between

MOST_ROWS = 16
# 10 ** 6
MOST_TURNS_OF_ROW = 1000000
MOST_MACHINES = 16
MOST_TURNS_ASKED = 200


def is_machines(thing):
    return is_whole_between(thing, 0, MOST_MACHINES)


def is_rest(thing):
    return is_whole_between(thing, 1, MOST_MACHINES)


def is_calendar_row(thing):
    if not isinstance(thing, tuple) or len(thing) != 2:
        return False
    return is_whole_between(thing[0], 1, MOST_TURNS_OF_ROW) and is_machines(thing[1])


def are_calendar_rows(thing):
    if not isinstance(thing, list) or len(thing) > MOST_ROWS:
        return False
    return all([is_calendar_row(row) for row in thing])


def neighbours_as_one(rows):
    told = []
    for many, machines in rows:
        if told and told[-1][1] == machines:
            told[-1] = (told[-1][0] + many, machines)
        else:
            told.append((many, machines))
    return told


def kept_rows(rows, rest):
    told = neighbours_as_one(rows)
    if told and told[-1][1] == rest:
        told.pop()
    return told


def clamped(turn, low, high):
    return max(low, min(turn, high))


def changed_rows(rows, first, last, by):
    told = []
    start = 0
    for many, machines in rows:
        stop = start + many
        enter = clamped(first, start, stop)
        leave = clamped(last + 1, start, stop)
        changed = max(0, machines + by)
        pieces = [(enter - start, machines), (leave - enter, changed), (stop - leave, machines)]
        told.extend([piece for piece in pieces if piece[0] > 0])
        start = stop
    return told


def calendar_beyond_bounds(rows, rest):
    # Calendars that are told by others may have more rows than those that are handed in,
    # so the bounds of what is handed in are met by a plain one, which is filled before it is told.
    made = Calendar([], 1)
    made.stretches = kept_rows(rows, rest)
    made.beyond = rest
    return made


def changed_calendar(calendar, first, last, by):
    rows = calendar.rows()
    if first <= last:
        missing = last + 1 - calendar.end()
        if missing > 0:
            rows.append((missing, calendar.rest()))
        rows = changed_rows(rows, first, last, by)
    return calendar_beyond_bounds(rows, calendar.rest())


class Calendar:
    def __init__(self, rows, rest):
        if not are_calendar_rows(rows) or not is_rest(rest):
            raise NoCalendar("these are no rows (many, machines) and a rest of machines")
        self.stretches = kept_rows(rows, rest)
        self.beyond = rest

    def rows(self):
        return list(self.stretches)

    def rest(self):
        return self.beyond

    def at(self, turn):
        stop = 0
        for many, machines in self.stretches:
            stop += many
            if turn < stop:
                return machines
        return self.beyond

    def end(self):
        return sum([many for many, machines in self.stretches])

    def over(self, first, last):
        total = 0
        start = 0
        for many, machines in self.stretches:
            total += machines * common_count(start, start + many - 1, first, last)
            start += many
        return total + self.beyond * common_count(start, last, first, last)

    def over_spans(self, spans):
        return sum([self.over(first, last) for first, last in spans])

    def changes(self, first, last):
        # In the kept form each row ends at a change, the last one too.
        told = []
        stop = 0
        for many, machines in self.stretches:
            stop += many
            if first < stop <= last:
                told.append(stop)
        return told

    def fewer(self, first, last, many):
        return changed_calendar(self, first, last, -many)

    def more(self, first, last, many):
        return changed_calendar(self, first, last, many)

    def widened(self, many):
        rows = [(turns, machines + many) for turns, machines in self.stretches]
        return calendar_beyond_bounds(rows, self.beyond + many)


def calendar_of(tell, turns, rest):
    if not is_whole_between(turns, 0, MOST_TURNS_ASKED):
        raise NoCalendar("a function is asked for 0 to 200 turns")
    rows = []
    for turn in range(turns):
        machines = tell(turn)
        if not is_machines(machines):
            raise NoCalendar("the function tells no number of machines")
        rows.append((1, machines))
    return Calendar(neighbours_as_one(rows), rest)
