import random
import unittest

from dueyard.calendars import Calendar
from dueyard.flows import Flow
from dueyard.laying import laid
from dueyard.plans import faults, last_turn, since, undone, until, without
from samples import faults_by_words, small_calendar, small_load, undone_by_words

TWO = Calendar([], 2)
LOAD = [("a", 2, 5, 3, 1), ("b", 0, 9, 4, 2)]
FAR = 10 ** 30 - 1


def random_plan(chance, load, rows):
    """Rows near the load, alike ones and wrong ones among them."""
    names = [job[0] for job in load] + ["none", "", "A b"]
    plan = []
    for _ in range(rows):
        if plan and chance.random() < 0.2:
            plan.append(chance.choice(plan))
        else:
            plan.append((chance.randint(-2, 14), chance.randint(-1, 3), chance.choice(names)))
    return plan


class Faults(unittest.TestCase):
    def test_no_faults(self):
        for plan in [
            [], [(2, 0, "a")], [(5, 1, "a")], [(0, 0, "b"), (0, 1, "b")], [(9, 1, "b")],
            [(2, 0, "a"), (3, 0, "a"), (4, 0, "a")], [(4, 1, "a"), (4, 0, "b"), (2, 1, "b"), (2, 0, "a")],
        ]:
            self.assertEqual(faults(LOAD, TWO, plan), [], plan)

    def test_each_word(self):
        for row, word in [
            ((3, 0, "c"), "name"), ((3, 0, ""), "name"), ((3, 0, "A"), "name"), ((3, 0, "a "), "name"),
            ((3, 0, "ab"), "name"), ((3, 0, "; -"), "name"),
            ((1, 0, "a"), "window"), ((6, 0, "a"), "window"), ((-1, 0, "b"), "window"), ((10, 0, "b"), "window"),
            ((FAR, 0, "b"), "window"), ((-FAR, 0, "b"), "window"),
            ((3, 2, "a"), "machine"), ((3, -1, "a"), "machine"), ((3, FAR, "a"), "machine"),
            ((3, -FAR, "a"), "machine"),
        ]:
            self.assertEqual(faults(LOAD, TWO, [row]), [(0, word)], row)
            self.assertEqual(faults(LOAD, TWO, [(4, 0, "a"), row, (5, 0, "a")]), [(1, word)], row)

    def test_taken(self):
        self.assertEqual(faults(LOAD, TWO, [(3, 0, "a"), (3, 0, "b")]), [(1, "taken")])
        self.assertEqual(faults(LOAD, TWO, [(3, 0, "b"), (3, 0, "b")]), [(1, "taken")])
        self.assertEqual(faults(LOAD, TWO, [(3, 0, "b"), (3, 1, "a"), (4, 0, "a"), (4, 1, "b")]), [])

    def test_breadth(self):
        self.assertEqual(faults(LOAD, TWO, [(3, 0, "a"), (3, 1, "a")]), [(1, "breadth")])
        three = Calendar([], 4)
        self.assertEqual(faults(LOAD, three, [(3, 2, "b"), (3, 1, "b"), (3, 0, "b"), (3, 3, "b")]),
                         [(2, "breadth"), (3, "breadth")])
        self.assertEqual(faults(LOAD, three, [(3, 2, "b"), (3, 1, "b"), (3, 0, "a"), (4, 0, "b"), (4, 1, "b")]), [])

    def test_work(self):
        plan = [(2, 0, "a"), (3, 0, "a"), (4, 0, "a"), (5, 0, "a")]
        self.assertEqual(faults(LOAD, TWO, plan), [(3, "work")])
        plan = [(turn, 0, "b") for turn in range(6)]
        self.assertEqual(faults(LOAD, TWO, plan), [(4, "work"), (5, "work")])

    def test_the_first_word_that_fits(self):
        # Each of these rows fits several words; the rows ahead of it are there to make them fit.
        ahead = [(3, 0, "a"), (4, 0, "a"), (5, 0, "a")]
        for row, word in [
            ((3, 0, "c"), "name"), ((99, 9, "c"), "name"),
            ((6, 9, "a"), "window"), ((1, 9, "a"), "window"),
            ((3, 9, "a"), "machine"), ((3, -1, "a"), "machine"),
            ((3, 0, "a"), "taken"), ((3, 1, "a"), "breadth"), ((2, 1, "a"), "work"),
        ]:
            self.assertEqual(faults(LOAD, TWO, ahead + [row]), [(3, word)], row)
        self.assertEqual(faults(LOAD, TWO, [(6, 0, "a"), (6, 0, "a")]), [(0, "window"), (1, "window")])
        self.assertEqual(faults(LOAD, TWO, [(3, 2, "a"), (3, 2, "a")]), [(0, "machine"), (1, "machine")])

    def test_rows_ahead_that_are_at_fault_count(self):
        self.assertEqual(faults(LOAD, TWO, [(3, 0, "c"), (3, 0, "a")]), [(0, "name"), (1, "taken")])
        self.assertEqual(faults(LOAD, TWO, [(1, 0, "a"), (1, 0, "b")]), [(0, "window"), (1, "taken")])
        self.assertEqual(faults(LOAD, TWO, [(3, 7, "a"), (3, 0, "a")]), [(0, "machine"), (1, "breadth")])
        plan = [(0, 0, "a"), (-5, 0, "a"), (99, 0, "a"), (3, 0, "a")]
        self.assertEqual(faults(LOAD, TWO, plan), [(0, "window"), (1, "window"), (2, "window"), (3, "work")])
        plan = [(3, 0, "b"), (3, 0, "a"), (3, 1, "a")]
        self.assertEqual(faults(LOAD, TWO, plan), [(1, "taken"), (2, "breadth")])

    def test_rows_behind_do_not_count(self):
        self.assertEqual(faults(LOAD, TWO, [(3, 0, "a"), (3, 0, "c"), (1, 0, "a")]), [(1, "name"), (2, "window")])

    def test_machines_of_the_calendar_at_the_turn(self):
        calendar = Calendar([(3, 0), (2, 3)], 1)
        plan = [(2, 0, "b"), (3, 2, "b"), (4, 3, "b"), (5, 0, "b"), (6, 1, "b")]
        self.assertEqual(faults(LOAD, calendar, plan), [(0, "machine"), (2, "machine"), (4, "machine")])

    def test_empty_windows_and_no_jobs(self):
        self.assertEqual(faults([("a", 5, 4, 3, 1)], TWO, [(4, 0, "a"), (5, 0, "a")]), [(0, "window"), (1, "window")])
        self.assertEqual(faults([], TWO, [(4, 0, "a"), (5, 0, "")]), [(0, "name"), (1, "name")])
        self.assertEqual(faults([], TWO, []), [])

    def test_far_windows(self):
        load = [("a", 10 ** 9, 10 ** 10, 3, 1)]
        plan = [(10 ** 9 - 1, 0, "a"), (10 ** 9, 0, "a"), (10 ** 10, 1, "a"), (10 ** 10 + 1, 0, "a")]
        self.assertEqual(faults(load, TWO, plan), [(0, "window"), (3, "window")])

    def test_a_thousand_rows(self):
        load = [("a", 0, 2000, 60, 1), ("b", 0, 10, 1, 1)]
        plan = [(turn, 0, "a") for turn in range(1000)]
        self.assertEqual(faults(load, TWO, plan), [(index, "work") for index in range(60, 1000)])
        plan = [(0, 0, "b")] * 1000
        self.assertEqual(faults(load, TWO, plan), [(index, "taken") for index in range(1, 1000)])

    def test_row_by_row(self):
        chance = random.Random(43)
        words = set()
        for _ in range(400):
            load, calendar = small_load(chance, chance.randint(0, 5), 12, 4, 2), small_calendar(chance)
            plan = random_plan(chance, load, chance.randint(0, 40))
            told = faults(load, calendar, plan)
            self.assertEqual(told, faults_by_words(load, calendar, plan), (load, plan))
            words.update(word for index, word in told)
        self.assertEqual(words, {"name", "window", "machine", "taken", "breadth", "work"})

    def test_what_is_handed_in_stays_and_what_is_told_is_new(self):
        load, calendar, plan = list(LOAD), Calendar([(3, 1)], 2), [(3, 0, "a"), (3, 0, "b"), (1, 9, "c")]
        told = faults(load, calendar, plan)
        self.assertEqual(told, [(1, "taken"), (2, "name")])
        told.clear()
        self.assertEqual(faults(load, calendar, plan), [(1, "taken"), (2, "name")])
        self.assertEqual((load, plan), (LOAD, [(3, 0, "a"), (3, 0, "b"), (1, 9, "c")]))
        self.assertEqual((calendar.rows(), calendar.rest()), ([(3, 1)], 2))


class Undone(unittest.TestCase):
    def test_undone(self):
        for plan, told in [
            ([], [3, 4]),
            ([(2, 0, "a")], [2, 4]),
            ([(2, 0, "a"), (3, 0, "b"), (3, 1, "b")], [2, 2]),
            ([(2, 0, "a"), (3, 0, "a"), (4, 0, "a")], [0, 4]),
            ([(2, 0, "a")] * 3, [0, 4]),
            ([(2, 0, "a")] * 9, [0, 4]),
            ([(-5, 0, "a"), (99, -3, "a"), (2, 77, "b")], [1, 3]),
            ([(2, 0, "c"), (2, 0, "")], [3, 4]),
            ([(FAR, FAR, "b")] * 1000, [3, 0]),
        ]:
            self.assertEqual(undone(LOAD, plan), told, plan)

    def test_the_order_of_the_load(self):
        self.assertEqual(undone(LOAD[::-1], [(2, 0, "a")]), [4, 2])

    def test_no_jobs(self):
        self.assertEqual(undone([], []), [])
        self.assertEqual(undone([], [(2, 0, "a")]), [])

    def test_what_is_handed_in_stays_and_what_is_told_is_new(self):
        load, plan = list(LOAD), [(2, 0, "a")]
        undone(load, plan).clear()
        self.assertEqual(undone(load, plan), [2, 4])
        self.assertEqual((load, plan), (LOAD, [(2, 0, "a")]))


class Parts(unittest.TestCase):
    PLAN = [(5, 0, "a"), (-3, 1, "b"), (5, 0, "a"), (0, 2, ""), (7, 0, "b"), (-3, 1, "b"), (FAR, 0, "c"), (1, 1, "a")]

    def test_last_turn(self):
        for name, told in [("a", 5), ("b", 7), ("", 0), ("c", FAR), ("d", None), ("A", None)]:
            self.assertEqual(last_turn(self.PLAN, name), told, name)
        self.assertIsNone(last_turn([], "a"))
        self.assertEqual(last_turn([(0, 0, "a")], "a"), 0)
        self.assertEqual(last_turn([(-3, 0, "a"), (-7, 0, "a")], "a"), -3)

    def test_until_and_since(self):
        rows = self.PLAN
        for turn, ahead in [
            (-4, []), (-3, []), (-2, [1, 5]), (0, [1, 5]), (1, [1, 3, 5]), (2, [1, 3, 5, 7]), (5, [1, 3, 5, 7]),
            (6, [0, 1, 2, 3, 5, 7]), (FAR, [0, 1, 2, 3, 4, 5, 7]), (FAR + 1, list(range(8))), (-FAR, []),
        ]:
            self.assertEqual(until(rows, turn), [rows[index] for index in ahead], turn)
            self.assertEqual(since(rows, turn), [rows[index] for index in range(8) if index not in ahead], turn)
        self.assertEqual((until([], 3), since([], 3)), ([], []))

    def test_without(self):
        rows = self.PLAN
        for name, left in [("a", [1, 3, 4, 5, 6]), ("b", [0, 2, 3, 6, 7]), ("", [0, 1, 2, 4, 5, 6, 7]),
                           ("d", list(range(8)))]:
            self.assertEqual(without(rows, name), [rows[index] for index in left], name)
        self.assertEqual(without([], "a"), [])

    def test_what_is_handed_in_stays_and_what_is_told_is_new(self):
        rows = list(self.PLAN)
        last_turn(rows, "a")
        for tell in [lambda: until(rows, FAR + 1), lambda: since(rows, -9), lambda: without(rows, "d")]:
            self.assertEqual(tell(), self.PLAN)
            tell().clear()
            self.assertEqual(tell(), self.PLAN)
        self.assertEqual(rows, self.PLAN)


class PlansOfFlows(unittest.TestCase):
    def test_the_plan_of_a_greatest_flow_has_no_fault_and_leaves_what_the_flow_lacks(self):
        chance = random.Random(44)
        lacks = set()
        for _ in range(200):
            load = small_load(chance, chance.randint(0, 12), 25, chance.choice([4, 30, 60]), 5)
            calendar = small_calendar(chance, 6)
            flow = Flow(load, calendar)
            shares = [[flow.share(place, cell) for cell in range(len(flow.cells))] for place in range(len(load))]
            plan = laid(load, flow.cells, shares)
            self.assertEqual(faults(load, calendar, plan), [])
            self.assertEqual(undone(load, plan), flow.lacking_by())
            self.assertEqual(undone(load, plan), undone_by_words(load, plan))
            lacks.add(flow.lacking() > 0)
        self.assertEqual(lacks, {True, False})


if __name__ == "__main__":
    unittest.main()
