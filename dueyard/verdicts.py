"""Verdicts: a load is kept by a calendar, or it is too full."""

from dueyard.flows import Flow
from dueyard.jobs import check_load, excess
from dueyard.laying import laid
from dueyard.plans import faults, undone
from dueyard.spans import merged


def overflow(load, calendar, spans):
    check_load(load)
    return sum([excess(job, spans) for job in load]) - calendar.over_spans(spans)


def names_over(load, spans):
    return [job[0] for job in load if excess(job, spans) > 0]


class Verdict:
    def __init__(self, load, calendar, plan):
        self.load = list(load)
        self.calendar = calendar
        self.plan = list(plan)

    def kept(self):
        return False

    def word(self):
        return "open"

    def told(self):
        return (self.word(), list(self.plan))

    def holds(self):
        return False

    def has_fault(self):
        return len(faults(self.load, self.calendar, self.plan)) > 0

    def work_undone(self):
        return sum(undone(self.load, self.plan))


class Kept(Verdict):
    def kept(self):
        return True

    def word(self):
        return "kept"

    def holds(self):
        return not self.has_fault() and self.work_undone() == 0


class Full(Verdict):
    def __init__(self, load, calendar, plan, lack, spans, names):
        Verdict.__init__(self, load, calendar, plan)
        self.lack = lack
        self.spans = list(spans)
        self.names = list(names)

    def word(self):
        return "full"

    def told(self):
        return (self.word(), list(self.plan), self.lack, list(self.spans), list(self.names))

    def holds(self):
        if self.has_fault() or self.lack < 1 or self.work_undone() != self.lack:
            return False
        if overflow(self.load, self.calendar, self.spans) != self.lack:
            return False
        return self.names == names_over(self.load, self.spans)


def plan_of(flow):
    shares = [[flow.share(job, cell) for cell in range(len(flow.cells))] for job in range(len(flow.load))]
    return laid(flow.load, flow.cells, shares)


def reached_spans(flow):
    reached_cells, reached_jobs = flow.cut()
    return merged([flow.cells[place][:2] for place in reached_cells])


def settled(load, calendar):
    flow = Flow(load, calendar)
    if flow.lacking() == 0:
        return Kept(load, calendar, plan_of(flow))
    spans = reached_spans(flow)
    return Full(load, calendar, plan_of(flow), flow.lacking(), spans, names_over(load, spans))
