import itertools
import random
import unittest

from dueyard.calendars import Calendar
from dueyard.cells import cells, cells_within
from dueyard.errors import NoName, NoNumber, TooMany, Twice
from dueyard.flows import Flow
from dueyard.jobs import excess
from dueyard.spans import tidy
from samples import greatest_overflow, least_undone, small_calendar, small_load

ONE = Calendar([], 1)


def told_by(flow):
    shares = [[flow.share(job, cell) for cell in range(len(flow.cells))] for job in range(len(flow.load))]
    return flow.load, flow.cells, shares, flow.lacking_by(), flow.lacking(), flow.cut()


class Flows(unittest.TestCase):
    def check_shares(self, flow, load, calendar):
        """Point 30."""
        self.assertEqual(flow.load, load)
        self.assertEqual(flow.cells, cells(load, calendar))
        places = range(len(flow.cells))
        for place, job in enumerate(load):
            window_cells = cells_within(job, flow.cells)
            for cell in places:
                share = flow.share(place, cell)
                first, last, machines = flow.cells[cell]
                self.assertIs(share.__class__, int)
                self.assertGreaterEqual(share, 0)
                self.assertLessEqual(share, job[4] * (last - first + 1) if cell in window_cells else 0)
            self.assertEqual(flow.work_done(place), sum(flow.share(place, cell) for cell in places))
        for cell in places:
            first, last, machines = flow.cells[cell]
            self.assertEqual(flow.used(cell), sum(flow.share(place, cell) for place in range(len(load))))
            self.assertLessEqual(flow.used(cell), machines * (last - first + 1))
        self.assertEqual(flow.lacking_by(), [job[3] - flow.work_done(place) for place, job in enumerate(load)])
        self.assertTrue(all(lack >= 0 for lack in flow.lacking_by()))
        self.assertEqual(flow.lacking(), sum(flow.lacking_by()))

    def check_cut(self, flow, load):
        """Point 32, by going over all ways until nothing more is reached."""
        jobs = {place for place, lack in enumerate(flow.lacking_by()) if lack > 0}
        some = set()
        while True:
            found_cells = {cell for place in jobs for cell in cells_within(load[place], flow.cells)
                           if flow.share(place, cell) < load[place][4] * self.turns(flow, cell)}
            found_jobs = {place for place in range(len(load)) for cell in some if flow.share(place, cell) > 0}
            if found_cells <= some and found_jobs <= jobs:
                break
            some |= found_cells
            jobs |= found_jobs
        self.assertEqual(flow.cut(), (sorted(some), sorted(jobs)))

    def turns(self, flow, cell):
        return flow.cells[cell][1] - flow.cells[cell][0] + 1

    def check_full(self, flow, load, calendar):
        """Point 33; so no flow has a lesser lack (31)."""
        reached_cells, reached_jobs = flow.cut()
        if flow.lacking() == 0:
            self.assertEqual((reached_cells, reached_jobs), ([], []))
        for cell in reached_cells:
            self.assertEqual(flow.used(cell), flow.cells[cell][2] * self.turns(flow, cell))
            for place in range(len(load)):
                self.assertTrue(place in reached_jobs or flow.share(place, cell) == 0)
        for place in reached_jobs:
            for cell in cells_within(load[place], flow.cells):
                self.assertTrue(cell in reached_cells
                                or flow.share(place, cell) == load[place][4] * self.turns(flow, cell))
        spans = tidy([flow.cells[cell][:2] for cell in reached_cells])
        overflow = sum(excess(job, spans) for job in load) - calendar.over_spans(spans)
        self.assertEqual(overflow, flow.lacking())

    def checked(self, load, calendar):
        flow = Flow(load, calendar)
        self.check_shares(flow, load, calendar)
        self.check_cut(flow, load)
        self.check_full(flow, load, calendar)
        return flow

    def test_one_job_alone(self):
        for first, last, work, breadth, lack in [
            (2, 5, 4, 1, 0), (2, 5, 5, 1, 1), (2, 5, 3, 1, 0), (2, 5, 12, 3, 0), (2, 5, 13, 3, 1), (2, 5, 12, 16, 0),
            (2, 5, 60, 16, 48), (5, 4, 7, 3, 7), (3, 3, 3, 3, 0), (3, 3, 3, 2, 1), (3, 3, 4, 4, 1), (0, 0, 1, 1, 0),
            (0, 10 ** 10, 60, 1, 0), (10 ** 9, 10 ** 10, 60, 16, 0), (10 ** 9, 10 ** 9 + 2, 60, 16, 51),
        ]:
            flow = self.checked([("a", first, last, work, breadth)], Calendar([], 3))
            self.assertEqual((flow.lacking(), flow.lacking_by()), (lack, [lack]), (first, last, work, breadth))
            self.assertEqual(flow.work_done(0), work - lack)

    def test_no_jobs(self):
        flow = self.checked([], ONE)
        self.assertEqual(told_by(flow), ([], [], [], [], 0, ([], [])))

    def test_no_turns(self):
        flow = self.checked([("a", 5, 4, 7, 3), ("b", 5, -1, 2, 1)], ONE)
        self.assertEqual(told_by(flow)[1:], ([], [[], []], [7, 2], 9, ([], [0, 1])))

    def test_no_machines(self):
        flow = self.checked([("a", 2, 5, 7, 3)], Calendar([(9, 0)], 1))
        self.assertEqual((flow.share(0, 0), flow.used(0), flow.lacking_by(), flow.cut()), (0, 0, [7], ([0], [0])))

    def test_only_the_breadth_is_too_small(self):
        flow = self.checked([("a", 0, 3, 5, 1), ("b", 0, 3, 2, 1)], Calendar([], 3))
        self.assertEqual((flow.lacking_by(), flow.cut()), ([1, 0], ([], [0])))

    def test_work_makes_way_for_other_work(self):
        # The first job finds room at once where the second one must go, and it has to give that back.
        flow = self.checked([("a", 0, 5, 3, 1), ("b", 0, 2, 3, 1)], ONE)
        self.assertEqual([flow.lacking_by(), flow.work_done(0), flow.work_done(1)], [[0, 0], 3, 3])
        flow = self.checked([("a", 0, 8, 3, 1), ("b", 0, 5, 3, 1), ("c", 0, 2, 3, 1)], ONE)
        self.assertEqual((flow.lacking_by(), flow.cut()), ([0, 0, 0], ([], [])))
        flow = self.checked([("c", 0, 2, 4, 1), ("a", 0, 8, 3, 1), ("b", 0, 5, 3, 1)], ONE)
        self.assertEqual(flow.lacking(), 1)

    def test_many_jobs_make_way_one_behind_the_other(self):
        load = [(f"j{place}", 0, 5 * (12 - place) - 1, 5, 1) for place in range(12)]
        self.assertEqual(self.checked(load, ONE).lacking(), 0)
        self.assertEqual(self.checked(load, Calendar([(3, 0)], 1)).lacking(), 3)

    def test_a_job_that_is_reached_lacks_nothing_itself(self):
        flow = self.checked([("a", 0, 1, 1, 1), ("b", 0, 1, 2, 1)], ONE)
        self.assertEqual((flow.lacking(), flow.cut()), (1, ([0], [0, 1])))

    def test_cells_that_are_not_reached(self):
        load = [("a", 0, 1, 5, 1), ("b", 4, 5, 1, 1), ("c", 8, 9, 7, 2)]
        flow = self.checked(load, ONE)
        self.assertEqual(flow.lacking_by(), [3, 0, 5])
        self.assertEqual(flow.cut(), ([2], [0, 2]))

    def test_no_laying_leaves_less_undone(self):
        chance = random.Random(31)
        for _ in range(250):
            load = small_load(chance, chance.randint(1, 4), 5, 4, 2)
            calendar = small_calendar(chance, 2)
            flow = self.checked(load, calendar)
            self.assertEqual(flow.lacking(), least_undone(load, calendar), (load, calendar.rows()))
            self.assertEqual(flow.lacking(), greatest_overflow(load, calendar), (load, calendar.rows()))

    def test_small_loads_gone_through_whole(self):
        windows = [(0, -1), (0, 0), (0, 1), (0, 2), (1, 2), (2, 2)]
        for one, other in itertools.product(windows, repeat=2):
            for works in itertools.product([1, 3], [1, 2]):
                for breadths in itertools.product([1, 2], repeat=2):
                    load = [("a", *one, works[0], breadths[0]), ("b", *other, works[1], breadths[1])]
                    for rows in [[], [(1, 2)], [(1, 1), (1, 0)]]:
                        calendar = Calendar(rows, 1)
                        self.assertEqual(self.checked(load, calendar).lacking(), least_undone(load, calendar))

    def test_loads_of_many_jobs(self):
        chance = random.Random(32)
        lacks = []
        for _ in range(250):
            load = small_load(chance, chance.choice([6, 9, 12]), 30, chance.choice([6, 20, 60]), 4)
            lacks.append(self.checked(load, small_calendar(chance, 6)).lacking())
        self.assertIn(0, lacks)
        self.assertGreater(max(lacks), 100)

    def test_twelve_jobs_far_on(self):
        chance = random.Random(33)
        for _ in range(20):
            load = [(name, first + 10 ** 9 - 40, last + 10 ** 9 - 40, work, breadth)
                    for name, first, last, work, breadth in small_load(chance, 11, 30, 60, 16)]
            load.append(("far", 10 ** 9, 10 ** 10, 60, 1))
            self.checked(load, Calendar([(10 ** 6, 16)], 4).more(10 ** 9 - 30, 10 ** 9 - 20, 9))

    def test_the_lack_hangs_not_on_the_order_of_the_jobs(self):
        chance = random.Random(34)
        for _ in range(40):
            load, calendar = small_load(chance, 6, 10, 12), small_calendar(chance)
            lack = Flow(load, calendar).lacking()
            for _ in range(5):
                chance.shuffle(load)
                self.assertEqual(self.checked(load, calendar).lacking(), lack)

    def test_loads_are_refused_as_check_load_refuses_them(self):
        for load, error in [
            ([(f"j{place}", 0, 1, 1, 1) for place in range(13)], TooMany),
            ([("A", 0, 1, 1, 1)] * 13, TooMany),
            ([("A", 0, 1, 0, 1)], NoName),
            ([("", 0, 1, 1, 1)], NoName),
            ([("a", 0, 1, 1, 1), ("a", 0, 1, 0, 1)], Twice),
            ([("a", 0, 1, 0, 1)], NoNumber),
            ([("a", 0, -2, 1, 1)], NoNumber),
            ([("a", 10 ** 9 + 1, 10 ** 10, 1, 1)], NoNumber),
            ([("a", 0, 1, 1, 17)], NoNumber),
            ([("a", None, 1, 1, 1)], NoNumber),
        ]:
            ahead = list(load)
            with self.assertRaises(error) as caught:
                Flow(load, ONE)
            self.assertIs(caught.exception.__class__, error)
            self.assertEqual(load, ahead)


class OwnThings(unittest.TestCase):
    LOAD = [("a", 0, 8, 3, 1), ("b", 0, 5, 3, 1), ("c", 0, 2, 5, 1)]

    def test_what_is_handed_in_stays(self):
        load, calendar = list(self.LOAD), Calendar([(3, 1)], 2)
        told_by(Flow(load, calendar))
        self.assertEqual(load, self.LOAD)
        self.assertEqual((calendar.rows(), calendar.rest()), ([(3, 1)], 2))

    def test_what_is_done_later_to_the_load_changes_nothing(self):
        load = list(self.LOAD)
        flow = Flow(load, ONE)
        load.clear()
        self.assertEqual(told_by(flow), told_by(Flow(list(self.LOAD), ONE)))
        self.assertEqual(flow.load, self.LOAD)

    def test_told_lists_are_the_askers_own(self):
        flow = Flow(self.LOAD, ONE)
        ahead = told_by(flow)
        self.assertGreater(flow.lacking(), 0)
        flow.lacking_by()[0] = 77
        flow.lacking_by().clear()
        flow.cut()[0].append(99)
        flow.cut()[1].clear()
        self.assertEqual(told_by(flow), ahead)
        self.assertEqual(flow.cut().__class__, tuple)

    def test_each_flow_tells_its_own(self):
        one, other = Flow(self.LOAD, ONE), Flow([("z", 3, 4, 9, 2)], Calendar([], 2))
        self.assertEqual(told_by(other), told_by(Flow([("z", 3, 4, 9, 2)], Calendar([], 2))))
        self.assertEqual(told_by(one), told_by(Flow(self.LOAD, ONE)))
        self.assertEqual((one.lacking(), other.lacking()), (2, 5))

    def test_asked_again_it_tells_alike(self):
        flow = Flow(self.LOAD, ONE)
        self.assertEqual(told_by(flow), told_by(flow))


if __name__ == "__main__":
    unittest.main()
