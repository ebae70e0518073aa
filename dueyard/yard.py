"""A yard: jobs are promised, withdrawn and worked, machines are lost and found."""

from dueyard.calendars import MOST_MACHINES
from dueyard.entries import Standing
from dueyard.errors import NoJob, NoName, NoNumber, Taken, TooMany
from dueyard.givings import fewest, lateness
from dueyard.jobs import MOST_BREADTH, MOST_JOBS, MOST_WORK, is_name
from dueyard.plans import last_turn, since, until, without
from dueyard.spans import is_whole_between
from dueyard.verdicts import settled

# 10 ** 6: no turn that is handed in is greater, and no more turns pass at once.
MOST_TURNS = 1000000


def are_turns(first, last):
    return is_whole_between(first, 0, MOST_TURNS) and is_whole_between(last, 0, MOST_TURNS)


def refuse_no_job(first, last, work, breadth):
    if not are_turns(first, last):
        raise NoNumber("first and last are whole numbers from 0 to 10 ** 6")
    if not is_whole_between(work, 1, MOST_WORK) or not is_whole_between(breadth, 1, MOST_BREADTH):
        raise NoNumber("work is a whole number from 1 to 60, breadth one from 1 to 16")


def refuse_no_stretch(first, last, many):
    if not are_turns(first, last) or not is_whole_between(many, 0, MOST_MACHINES):
        raise NoNumber("first and last are whole numbers from 0 to 10 ** 6, and many is one from 0 to 16")


def given_ways(load, plan):
    told = []
    for name, first, last, work, breadth in load:
        ends = last_turn(plan, name)
        if ends > last:
            told.append((name, last, ends))
    return told


class Yard:
    def __init__(self, calendar):
        self.turn = 0
        self.calendar = calendar
        # By their names, in the order in which they were promised.
        self.entries = {}
        self.plan = []
        self.log = []
        self.given = []

    def standing(self):
        return [entry for entry in self.entries.values() if isinstance(entry, Standing)]

    def ask(self, name, first, last, work, breadth=1):
        if not is_name(name):
            raise NoName("a job is asked for by a name")
        if name in self.entries:
            raise Taken(name)
        refuse_no_job(first, last, work, breadth)
        if len(self.standing()) >= MOST_JOBS:
            raise TooMany("twelve jobs are standing")
        entry = Standing(name, first, last, work, breadth)
        verdict = settled(self.load_now() + [entry.job_at(self.turn)], self.calendar)
        if verdict.kept():
            self.entries[name] = entry
            self.plan = list(verdict.plan)
        return verdict

    def withdraw(self, name):
        if name not in [entry.name for entry in self.standing()]:
            raise NoJob(name)
        entry = self.entries[name].as_withdrawn()
        self.entries[name] = entry
        self.plan = without(self.plan, name)
        return entry.left()

    def pass_turns(self, many):
        if not is_whole_between(many, 0, MOST_TURNS):
            raise NoNumber("0 to 10 ** 6 turns pass at once")
        self.turn += many
        worked = until(self.plan, self.turn)
        self.plan = since(self.plan, self.turn)
        self.log.extend(worked)
        for turn, machine, name in worked:
            self.work_once_for(name)
        return worked

    def work_once_for(self, name):
        entry = self.entries[name]
        entry.work_once()
        if entry.left() == 0:
            self.entries[name] = entry.as_finished()

    def lose(self, first, last, many):
        refuse_no_stretch(first, last, many)
        calendar = self.calendar.fewer(max(first, self.turn), last, many)
        load = self.load_now()
        by, plan, paper = lateness(load, calendar)
        more = 0 if by == 0 else fewest(load, calendar)[0]
        gave = given_ways(load, plan)
        self.calendar = calendar
        self.plan = plan
        for name, old, new in gave:
            self.entries[name].give_way(new)
            self.given.append((self.turn, name, old, new))
        return (by, gave, paper, more)

    def find(self, first, last, many):
        refuse_no_stretch(first, last, many)
        self.calendar = self.calendar.more(max(first, self.turn), last, many)

    def now_turn(self):
        return self.turn

    def calendar_now(self):
        return self.calendar

    def plan_now(self):
        return list(self.plan)

    def load_now(self):
        return [entry.job_at(self.turn) for entry in self.standing()]

    def log_told(self):
        return list(self.log)

    def state_of(self, name):
        if name not in self.entries:
            raise NoJob(name)
        return self.entries[name].told()

    def all_names(self):
        return list(self.entries)

    def gave_ways(self):
        return list(self.given)
