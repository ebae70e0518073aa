import random
import unittest

from dueyard.calendars import Calendar
from dueyard.cells import cells, cells_within
from dueyard.errors import NoName, NoNumber, TooMany, Twice
from samples import small_calendar, small_load, turns_in, window

THREE = Calendar([], 3)


def job(name, first, last):
    return (name, first, last, 1, 1)


def cells_by_turns(load, calendar):
    """The cells as point 23 says them, turn by turn."""
    def mark(turn):
        return [one[0] for one in load if turn in window(one)], calendar.at(turn)

    told = []
    for turn in sorted(set().union(*[window(one) for one in load])):
        if told and told[-1][1] == turn - 1 and mark(turn - 1) == mark(turn):
            told[-1] = (told[-1][0], turn, told[-1][2])
        else:
            told.append((turn, turn, calendar.at(turn)))
    return told


class Cells(unittest.TestCase):
    def test_windows(self):
        for windows, told in [
            ([], []),
            ([(2, 5)], [(2, 5, 3)]),
            ([(4, 4)], [(4, 4, 3)]),
            ([(0, 0)], [(0, 0, 3)]),
            ([(5, 4)], []),
            ([(5, -1), (3, 0)], []),
            ([(2, 5), (2, 5)], [(2, 5, 3)]),
            ([(2, 5), (6, 8)], [(2, 5, 3), (6, 8, 3)]),
            ([(6, 8), (2, 5)], [(2, 5, 3), (6, 8, 3)]),
            ([(2, 5), (7, 8)], [(2, 5, 3), (7, 8, 3)]),
            ([(2, 5), (4, 8)], [(2, 3, 3), (4, 5, 3), (6, 8, 3)]),
            ([(2, 5), (5, 8)], [(2, 4, 3), (5, 5, 3), (6, 8, 3)]),
            ([(2, 9), (4, 6)], [(2, 3, 3), (4, 6, 3), (7, 9, 3)]),
            ([(2, 9), (2, 6)], [(2, 6, 3), (7, 9, 3)]),
            ([(2, 9), (6, 9)], [(2, 5, 3), (6, 9, 3)]),
            ([(2, 9), (5, 4)], [(2, 9, 3)]),
            ([(2, 9), (5, 2)], [(2, 9, 3)]),
            ([(2, 5), (6, 8), (2, 8)], [(2, 5, 3), (6, 8, 3)]),
            ([(2, 3), (6, 8), (0, 9)], [(0, 1, 3), (2, 3, 3), (4, 5, 3), (6, 8, 3), (9, 9, 3)]),
        ]:
            with self.subTest(windows):
                load = [job(f"j{place}", first, last) for place, (first, last) in enumerate(windows)]
                self.assertEqual(cells(load, THREE), told)

    def test_changes_of_the_calendar(self):
        calendar = Calendar([(2, 1), (3, 0), (2, 4)], 2)
        for first, last, told in [
            (0, 9, [(0, 1, 1), (2, 4, 0), (5, 6, 4), (7, 9, 2)]),
            (1, 2, [(1, 1, 1), (2, 2, 0)]),
            (2, 4, [(2, 4, 0)]),
            (3, 3, [(3, 3, 0)]),
            (4, 5, [(4, 4, 0), (5, 5, 4)]),
            (7, 99, [(7, 99, 2)]),
            (6, 7, [(6, 6, 4), (7, 7, 2)]),
        ]:
            self.assertEqual(cells([job("a", first, last)], calendar), told, (first, last))

    def test_changes_between_the_windows_part_nothing(self):
        calendar = Calendar([(4, 1), (3, 2)], 1)
        self.assertEqual(cells([job("a", 0, 2), job("b", 8, 9)], calendar), [(0, 2, 1), (8, 9, 1)])
        self.assertEqual(cells([job("a", 0, 3), job("b", 7, 9)], calendar), [(0, 3, 1), (7, 9, 1)])

    def test_a_change_at_the_end_of_a_window(self):
        calendar = Calendar([(4, 1)], 2)
        self.assertEqual(cells([job("a", 0, 3), job("b", 4, 6)], calendar), [(0, 3, 1), (4, 6, 2)])
        self.assertEqual(cells([job("a", 0, 9), job("b", 4, 6)], calendar), [(0, 3, 1), (4, 6, 2), (7, 9, 2)])

    def test_windows_far_on(self):
        load = [job("a", 10 ** 9, 10 ** 10), job("b", 0, 10 ** 10), job("c", 10 ** 9, 10 ** 9)]
        calendar = Calendar([(10 ** 6, 0), (10 ** 6, 5)], 2)
        self.assertEqual(cells(load, calendar), [
            (0, 10 ** 6 - 1, 0), (10 ** 6, 2 * 10 ** 6 - 1, 5), (2 * 10 ** 6, 10 ** 9 - 1, 2),
            (10 ** 9, 10 ** 9, 2), (10 ** 9 + 1, 10 ** 10, 2)])
        self.assertEqual(cells([job("a", 10 ** 9, 10 ** 10)], calendar), [(10 ** 9, 10 ** 10, 2)])

    def test_calendars_told_by_others(self):
        load = [job("a", 0, 9)]
        self.assertEqual(cells(load, THREE.fewer(2, 3, 9)), [(0, 1, 3), (2, 3, 0), (4, 9, 3)])
        self.assertEqual(cells(load, THREE.more(5, 10 ** 10, 40)), [(0, 4, 3), (5, 9, 43)])
        self.assertEqual(cells(load, THREE.more(2, 3, 1).fewer(2, 3, 1)), [(0, 9, 3)])
        self.assertEqual(cells(load, THREE.widened(20)), [(0, 9, 23)])
        self.assertEqual(cells(load, THREE.fewer(0, 10 ** 10, 3)), [(0, 9, 0)])

    def test_turn_by_turn(self):
        chance = random.Random(23)
        for _ in range(600):
            load, calendar = small_load(chance, chance.randint(0, 6)), small_calendar(chance)
            told = cells(load, calendar)
            self.assertEqual(told, cells_by_turns(load, calendar), (load, calendar.rows()))
            for one in load:
                places = cells_within(one, told)
                self.assertEqual(places, sorted(set(places)))
                self.assertEqual(turns_in([told[place][:2] for place in places]), window(one))

    def test_twelve_jobs(self):
        chance = random.Random(24)
        for _ in range(60):
            load, calendar = small_load(chance, 12, 40), small_calendar(chance)
            self.assertEqual(cells(load, calendar), cells_by_turns(load, calendar))

    def test_empty_windows_make_no_difference(self):
        chance = random.Random(25)
        for _ in range(60):
            load, calendar = small_load(chance, 4), small_calendar(chance)
            first = chance.randint(0, 12)
            more = load + [job("none", first, chance.randint(-1, first - 1))]
            self.assertEqual(cells(more, calendar), cells(load, calendar))

    def test_loads_are_refused_as_check_load_refuses_them(self):
        for load, error in [
            ([job(f"j{place}", 0, 1) for place in range(13)], TooMany),
            ([job("A", 0, 1)] * 13, TooMany),
            ([job("A", 0, 1)], NoName),
            ([job(None, 0, 1)], NoName),
            ([job("a", 0, 1), job("a", 2, -7)], Twice),
            ([job("a", -1, 1)], NoNumber),
            ([job("a", 0, 10 ** 10 + 1)], NoNumber),
            ([job("a", "0", 1)], NoNumber),
            ([("a", 0, 1, 61, 1)], NoNumber),
            ([("a", 0, 1, 1, True)], NoNumber),
        ]:
            ahead = list(load)
            with self.assertRaises(error) as caught:
                cells(load, THREE)
            self.assertIs(caught.exception.__class__, error)
            self.assertEqual(load, ahead)
        self.assertEqual(self.name_of_twice(), "a")

    def name_of_twice(self):
        try:
            cells([job("a", 0, 1), job("a", 0, 1)], THREE)
        except Twice as refusal:
            return refusal.name

    def test_what_is_handed_in_stays_and_what_is_told_is_new(self):
        load, calendar = [job("a", 2, 5), job("b", 4, 8)], Calendar([(3, 1)], 2)
        told = cells(load, calendar)
        kept = list(told)
        told.clear()
        self.assertEqual(cells(load, calendar), kept)
        self.assertEqual(load, [job("a", 2, 5), job("b", 4, 8)])
        self.assertEqual((calendar.rows(), calendar.rest()), ([(3, 1)], 2))
        told = cells(load, calendar)
        load.clear()
        self.assertEqual(told, kept)


class CellsWithin(unittest.TestCase):
    def test_places(self):
        load = [job("a", 2, 5), job("b", 4, 8), job("c", 12, 12), job("d", 7, 6), job("e", 0, 99), job("f", 12, 5)]
        some = cells(load, THREE)
        self.assertEqual([first for first, last, machines in some], [0, 2, 4, 6, 9, 12, 13])
        for one, places in zip(load, [[1, 2], [2, 3], [5], [], [0, 1, 2, 3, 4, 5, 6], []]):
            self.assertEqual(cells_within(one, some), places)

    def test_cells_without_machines_are_among_them(self):
        load = [job("a", 1, 8)]
        some = cells(load, Calendar([(3, 0), (3, 2)], 1))
        self.assertEqual(cells_within(load[0], some), [0, 1, 2])

    def test_no_cells(self):
        self.assertEqual(cells_within(job("a", 5, 4), []), [])
        self.assertEqual(cells_within(job("a", 0, -1), []), [])

    def test_a_far_window(self):
        load = [job("a", 10 ** 9, 10 ** 10), job("b", 5, 10 ** 9), job("c", 10 ** 9, -1)]
        some = cells(load, THREE)
        self.assertEqual([cells_within(one, some) for one in load], [[1, 2], [0, 1], []])

    def test_what_is_handed_in_stays_and_what_is_told_is_new(self):
        load = [job("a", 2, 5), job("b", 4, 8)]
        some = cells(load, THREE)
        kept = list(some)
        told = cells_within(load[0], some)
        told.append(9)
        self.assertEqual(cells_within(load[0], some), [0, 1])
        self.assertEqual(some, kept)


if __name__ == "__main__":
    unittest.main()
