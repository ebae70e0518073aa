"""The greatest flow of a load through its cells."""

from dueyard.cells import cells, cells_within


def most_shares(job, some):
    most = {}
    for place in cells_within(job, some):
        most[place] = job[4] * (some[place][1] - some[place][0] + 1)
    return most


class Reach:
    # Of each reached cell the job that an open way leads from, of each reached job the cell;
    # None of a job that lacks something, as all ways begin there.
    def __init__(self, lacking_jobs):
        self.job_ahead = {}
        self.cell_ahead = {}
        for job in lacking_jobs:
            self.cell_ahead[job] = None

    def steps_to(self, cell):
        steps = []
        while cell is not None:
            job = self.job_ahead[cell]
            steps.append((job, cell, self.cell_ahead[job]))
            cell = self.cell_ahead[job]
        return steps


class Flow:
    # Whatever is asked of it, its jobs and cells are told apart by their places in these two lists.
    def __init__(self, load, calendar):
        self.cells = cells(load, calendar)
        self.load = list(load)
        self.most = [most_shares(job, self.cells) for job in self.load]
        self.shares = [[0] * len(self.cells) for job in self.load]
        self.missing = [job[3] for job in self.load]
        self.spare = [machines * (last - first + 1) for first, last, machines in self.cells]
        self.take_straight()
        self.take_by_ways()

    def take_straight(self):
        # This finds most of a flow without the dearer search for ways.
        for job, most in enumerate(self.most):
            for cell in most:
                self.shift([(job, cell, None)])

    def take_by_ways(self):
        # Where no open way leads from a lacking job to a cell with room to spare, no flow is greater.
        steps = self.steps_to_spare()
        while steps:
            self.shift(steps)
            steps = self.steps_to_spare()

    def steps_to_spare(self):
        reach = self.reached()
        for cell in reach.job_ahead:
            if self.spare[cell] > 0:
                return reach.steps_to(cell)
        return []

    def reached(self):
        waiting = [job for job, missing in enumerate(self.missing) if missing > 0]
        reach = Reach(waiting)
        while waiting:
            job = waiting.pop(0)
            for cell in self.cells_behind(job):
                if cell not in reach.job_ahead:
                    reach.job_ahead[cell] = job
                    fresh = [other for other in self.jobs_behind(cell) if other not in reach.cell_ahead]
                    for other in fresh:
                        reach.cell_ahead[other] = cell
                    waiting.extend(fresh)
        return reach

    def cells_behind(self, job):
        return [cell for cell, most in self.most[job].items() if self.shares[job][cell] < most]

    def jobs_behind(self, cell):
        return [job for job, shares in enumerate(self.shares) if shares[cell] > 0]

    def shift(self, steps):
        # The steps go from the cell with room to spare back to the job that lacks something.
        by = min(self.spare[steps[0][1]], self.missing[steps[-1][0]])
        for job, taken, given in steps:
            by = min(by, self.most[job][taken] - self.shares[job][taken])
            if given is not None:
                by = min(by, self.shares[job][given])
        for job, taken, given in steps:
            self.shares[job][taken] += by
            if given is not None:
                self.shares[job][given] -= by
        self.spare[steps[0][1]] -= by
        self.missing[steps[-1][0]] -= by

    def share(self, job, cell):
        return self.shares[job][cell]

    def work_done(self, job):
        return sum(self.shares[job])

    def used(self, cell):
        return sum([shares[cell] for shares in self.shares])

    def lacking_by(self):
        return list(self.missing)

    def lacking(self):
        return sum(self.missing)

    def cut(self):
        reach = self.reached()
        return (sorted(reach.job_ahead), sorted(reach.cell_ahead))
