import collections
import random
import unittest

from dueyard.flows import Flow
from dueyard.laying import laid
from samples import small_calendar, small_load


def job(name, work=60, breadth=16):
    # The windows are not looked at, so these are empty.
    return (name, 5, 4, work, breadth)


def random_shares(chance, load, cells):
    """Shares within the bounds of point 40, many of them as great as can be."""
    shares = [[0] * len(cells) for _ in load]
    for place, (first, last, machines) in enumerate(cells):
        turns = last - first + 1
        spare = machines * turns
        for own, (name, start, stop, work, breadth) in zip(shares, load):
            most = min(breadth * turns, spare, work - sum(own))
            own[place] = chance.choice([0, most, chance.randint(0, most)])
            spare -= own[place]
    return shares


def random_cells(chance, many):
    cells = []
    turn = chance.choice([0, 3])
    for _ in range(many):
        last = turn + chance.choice([0, 0, 1, 4, 9])
        cells.append((turn, last, chance.randint(0, 5)))
        turn = last + 1 + chance.choice([0, 0, 1, 7, 10 ** 6])
    return cells


def laid_by_positions(load, cells, shares):
    """The plan as point 41 says it."""
    plan = []
    for place, (first, last, machines) in enumerate(cells):
        names = [one[0] for one, own in zip(load, shares) for _ in range(own[place])]
        turns = last - first + 1
        plan += [(first + p % turns, p // turns, name) for p, name in enumerate(names)]
    return sorted(plan)


class Laid(unittest.TestCase):
    def test_along_all_turns_of_machine_0_then_of_machine_1(self):
        self.assertEqual(laid([job("a"), job("b")], [(4, 6, 3)], [[4], [3]]), [
            (4, 0, "a"), (4, 1, "a"), (4, 2, "b"), (5, 0, "a"), (5, 1, "b"), (6, 0, "a"), (6, 1, "b")])

    def test_the_order_of_the_load(self):
        self.assertEqual(laid([job("b"), job("a")], [(0, 2, 1)], [[2], [1]]), [(0, 0, "b"), (1, 0, "b"), (2, 0, "a")])
        self.assertEqual(laid([job("a"), job("b")], [(0, 2, 1)], [[2], [1]]), [(0, 0, "a"), (1, 0, "a"), (2, 0, "b")])

    def test_a_job_that_goes_on_at_the_next_machine(self):
        self.assertEqual(laid([job("a"), job("b")], [(0, 3, 2)], [[3], [3]]), [
            (0, 0, "a"), (0, 1, "b"), (1, 0, "a"), (1, 1, "b"), (2, 0, "a"), (3, 0, "b")])

    def test_cells_of_one_turn(self):
        self.assertEqual(laid([job("a"), job("b")], [(7, 7, 5)], [[2], [3]]), [
            (7, 0, "a"), (7, 1, "a"), (7, 2, "b"), (7, 3, "b"), (7, 4, "b")])

    def test_several_cells(self):
        cells = [(0, 1, 1), (2, 2, 2), (9, 11, 1)]
        self.assertEqual(laid([job("a"), job("b")], cells, [[1, 1, 2], [1, 1, 0]]), [
            (0, 0, "a"), (1, 0, "b"), (2, 0, "a"), (2, 1, "b"), (9, 0, "a"), (10, 0, "a")])

    def test_shares_of_0(self):
        load, cells = [job("a"), job("b"), job("c")], [(0, 1, 2), (4, 4, 0), (6, 7, 1)]
        self.assertEqual(laid(load, cells, [[0, 0, 1], [0, 0, 0], [3, 0, 0]]), [
            (0, 0, "c"), (0, 1, "c"), (1, 0, "c"), (6, 0, "a")])
        self.assertEqual(laid(load, cells, [[0, 0, 0], [0, 0, 0], [0, 0, 0]]), [])

    def test_no_jobs_and_no_cells(self):
        self.assertEqual(laid([], [], []), [])
        self.assertEqual(laid([], [(0, 4, 2)], []), [])
        self.assertEqual(laid([job("a")], [], [[]]), [])
        self.assertEqual(laid([job("a"), job("b")], [], [[], []]), [])

    def test_far_on(self):
        far = 10 ** 10
        self.assertEqual(laid([job("a")], [(0, far, 1)], [[2]]), [(0, 0, "a"), (1, 0, "a")])
        self.assertEqual(laid([job("a"), job("b")], [(far - 1, far, 3)], [[3], [2]]), [
            (far - 1, 0, "a"), (far - 1, 1, "a"), (far - 1, 2, "b"), (far, 0, "a"), (far, 1, "b")])
        self.assertEqual(laid([job("a")], [(far, far, 10 ** 20)], [[2]]), [(far, 0, "a"), (far, 1, "a")])

    def test_the_windows_are_not_looked_at(self):
        for first, last in [(0, 1), (50, 60), (1, 0), (10 ** 9, 10 ** 10)]:
            self.assertEqual(laid([("a", first, last, 2, 1)], [(0, 1, 1)], [[2]]), [(0, 0, "a"), (1, 0, "a")])

    def test_a_thousand_cells(self):
        cells = [(3 * place, 3 * place + 1, 1) for place in range(1000)]
        own = [1 if place in (0, 500, 999) else 0 for place in range(1000)]
        other = [2 if place in (1, 998) else 1 if place == 500 else 0 for place in range(1000)]
        self.assertEqual(laid([job("a"), job("b")], cells, [own, other]), [
            (0, 0, "a"), (3, 0, "b"), (4, 0, "b"), (1500, 0, "a"), (1501, 0, "b"), (2994, 0, "b"), (2995, 0, "b"),
            (2997, 0, "a")])

    def check_plan(self, plan, load, cells, shares):
        """Points 41 and 42."""
        self.assertEqual(plan, laid_by_positions(load, cells, shares))
        self.assertEqual(plan, sorted(plan))
        self.assertEqual(len({row[:2] for row in plan}), len(plan))
        breadths = {one[0]: one[4] for one in load}
        for (turn, name), many in collections.Counter((turn, name) for turn, machine, name in plan).items():
            self.assertLessEqual(many, breadths[name])
        for place, (first, last, machines) in enumerate(cells):
            rows = [row for row in plan if first <= row[0] <= last]
            self.assertTrue(all(0 <= machine < machines for turn, machine, name in rows))
            for own, one in zip(shares, load):
                self.assertEqual(sum(row[2] == one[0] for row in rows), own[place])

    def test_shares_of_any_cells(self):
        chance = random.Random(41)
        for _ in range(300):
            load = [job(f"j{place}", chance.randint(1, 60), chance.choice([1, 2, 3, 16]))
                    for place in range(chance.randint(0, 12))]
            cells = random_cells(chance, chance.randint(0, 9))
            shares = random_shares(chance, load, cells)
            self.check_plan(laid(load, cells, shares), load, cells, shares)

    def test_shares_of_flows(self):
        chance = random.Random(42)
        for _ in range(100):
            load = small_load(chance, chance.randint(1, 12), 20, 30)
            flow = Flow(load, small_calendar(chance, 5))
            shares = [[flow.share(place, cell) for cell in range(len(flow.cells))] for place in range(len(load))]
            plan = laid(load, flow.cells, shares)
            self.check_plan(plan, load, flow.cells, shares)
            for name, first, last, work, breadth in load:
                self.assertTrue(all(first <= row[0] <= last for row in plan if row[2] == name))

    def test_what_is_handed_in_stays_and_what_is_told_is_new(self):
        load, cells, shares = [job("a"), job("b")], [(0, 1, 2), (4, 4, 1)], [[2, 1], [1, 0]]
        told = laid(load, cells, shares)
        kept = list(told)
        told.clear()
        self.assertEqual(laid(load, cells, shares), kept)
        self.assertEqual((load, cells, shares),
                         ([job("a"), job("b")], [(0, 1, 2), (4, 4, 1)], [[2, 1], [1, 0]]))
        told = laid(load, cells, shares)
        shares[0][0] = 0
        cells.clear()
        load.clear()
        self.assertEqual(told, kept)


if __name__ == "__main__":
    unittest.main()
