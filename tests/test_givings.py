import random
import unittest

from dueyard.calendars import Calendar
from dueyard.errors import NoName, NoNumber, TooLong, Twice
from dueyard.givings import fewest, lateness
from dueyard.verdicts import settled
from samples import Refusing, does_all, greatest_overflow, is_paper, laid_later, small_calendar, small_load

ONE = Calendar([], 1)
TWO = Calendar([], 2)


def is_kept(load, calendar):
    return settled(load, calendar).kept()


class Lateness(Refusing):
    def late(self, load, calendar):
        """Points 61 and 63."""
        told = lateness(load, calendar)
        self.assertIs(told.__class__, tuple)
        by, plan, paper = told
        self.assertTrue(does_all(laid_later(load, by), calendar, plan), (load, calendar.rows(), told))
        if by == 0:
            self.assertIsNone(paper)
        else:
            self.assertGreater(by, 0)
            self.assertTrue(is_paper(paper, laid_later(load, by - 1), calendar), (load, calendar.rows(), told))
        return by

    def test_no_jobs(self):
        for calendar in [ONE, Calendar([(5, 0)], 3), ONE.fewer(0, 10 ** 8, 1)]:
            self.assertEqual(lateness([], calendar), (0, [], None))

    def test_one_job(self):
        for first, last, work, breadth, by in [
            (2, 5, 4, 1, 0), (2, 5, 5, 1, 1), (2, 5, 9, 1, 5), (2, 5, 9, 2, 1), (2, 5, 60, 16, 26), (5, 4, 1, 1, 1),
            (5, 4, 2, 2, 1), (5, 4, 2, 1, 2), (5, -1, 1, 1, 6), (0, -1, 1, 1, 1), (0, 0, 1, 1, 0), (9, 2, 3, 1, 9),
        ]:
            self.assertEqual(self.late([("a", first, last, work, breadth)], TWO), by, (first, last, work, breadth))

    def test_several_jobs(self):
        self.assertEqual(self.late([("a", 0, 2, 3, 1), ("b", 0, 5, 3, 1)], ONE), 0)
        self.assertEqual(self.late([("a", 0, 2, 3, 1), ("b", 0, 4, 3, 1)], ONE), 1)
        self.assertEqual(self.late([("a", 0, 2, 3, 1), ("b", 0, 2, 3, 1)], ONE), 3)
        self.assertEqual(self.late([("a", 0, 2, 3, 1), ("b", 0, 99, 3, 1), ("c", 0, 2, 3, 1)], ONE), 3)
        self.assertEqual(self.late([(f"j{place}", 0, 0, 60, 16) for place in range(12)], ONE), 719)

    def test_turns_without_machines(self):
        self.assertEqual(self.late([("a", 0, 3, 2, 1)], Calendar([(9, 0)], 1)), 7)
        self.assertEqual(self.late([("a", 0, 3, 1, 1)], Calendar([(1, 1), (9, 0)], 1)), 0)
        self.assertEqual(self.late([("a", 0, 3, 2, 2)], Calendar([(1, 1), (9, 0)], 1)), 7)
        self.assertEqual(self.late([("a", 0, -1, 1, 1)], Calendar([(10 ** 6, 0)], 1)), 10 ** 6 + 1)
        rows = [(10 ** 6, place % 2) for place in range(1, 17)]
        self.assertEqual(self.late([("a", 2 * 10 ** 6 - 1, 2 * 10 ** 6, 3, 3)], Calendar(rows, 1)), 2)

    def test_without_machines_for_a_very_long_time(self):
        calendar = ONE.fewer(0, 10 ** 9 - 2, 1)
        self.assertEqual(calendar.end(), 10 ** 9 - 1)
        self.assertEqual(self.late([("a", 0, 0, 1, 1)], calendar), 10 ** 9 - 1)
        self.assertEqual(self.late([("a", 0, -1, 60, 16), ("b", 7, 9, 5, 1)], calendar), 10 ** 9 + 59)

    def test_far_windows(self):
        far = 10 ** 9
        self.assertEqual(self.late([("a", far, far, 60, 1)], ONE), 59)
        self.assertEqual(self.late([("a", far, -1, 60, 1)], ONE), far + 60)
        self.assertEqual(self.late([("a", far - 1, far, 2, 1), ("b", far, far, 2, 1)], ONE), 2)
        self.assertEqual(self.late([("a", 0, far, 60, 1), ("b", 0, far, 60, 1)], ONE), 0)
        self.assertEqual(self.late([("a", 0, far, 60, 16), ("b", 0, 0, 60, 16)], Calendar([], 16)), 3)

    def test_no_lesser_number_will_do(self):
        chance = random.Random(61)
        seen = set()
        for _ in range(120):
            load = small_load(chance, chance.randint(1, 4), 5, 4, 2)
            calendar = small_calendar(chance, 2)
            by = self.late(load, calendar)
            for less in range(by):
                self.assertFalse(is_kept(laid_later(load, less), calendar))
            if by > 0 and sum(job[2] - job[1] + by for job in load) < 14:
                self.assertGreater(greatest_overflow(laid_later(load, by - 1), calendar), 0)
            for more in [1, 2, 9]:
                self.assertTrue(is_kept(laid_later(load, by + more), calendar))
            seen.add(min(by, 3))
        self.assertEqual(seen, {0, 1, 2, 3})

    def test_loads_of_many_jobs(self):
        chance = random.Random(62)
        for _ in range(60):
            load = small_load(chance, chance.choice([6, 12]), 30, chance.choice([4, 20, 60]), 4)
            calendar = small_calendar(chance, 6)
            by = self.late(load, calendar)
            self.assertEqual(by == 0, is_kept(load, calendar))

    def test_loads_are_refused_as_check_load_refuses_them(self):
        self.check_refuses_no_loads(lateness, ONE)


class Fewest(Refusing):
    def few(self, load, calendar):
        """Points 62 and 63."""
        told = fewest(load, calendar)
        self.assertIs(told.__class__, tuple)
        many, plan, paper = told
        self.assertTrue(does_all(load, calendar.widened(many), plan), (load, calendar.rows(), told))
        if many == 0:
            self.assertIsNone(paper)
        else:
            self.assertGreater(many, 0)
            self.assertTrue(is_paper(paper, load, calendar.widened(many - 1)), (load, calendar.rows(), told))
        return many

    def test_no_jobs(self):
        for calendar in [ONE, Calendar([(5, 0)], 3), ONE.fewer(0, 10 ** 8, 1)]:
            self.assertEqual(fewest([], calendar), (0, [], None))

    def test_one_job(self):
        for first, last, work, breadth, many in [
            (2, 5, 4, 1, 0), (2, 5, 8, 2, 0), (2, 5, 9, 3, 1), (2, 5, 12, 3, 1), (2, 5, 13, 4, 2), (2, 5, 60, 16, 13),
            (3, 3, 16, 16, 14), (3, 3, 1, 16, 0),
        ]:
            self.assertEqual(self.few([("a", first, last, work, breadth)], TWO), many, (first, last, work, breadth))

    def test_several_jobs(self):
        load = [("a", 0, 2, 3, 1), ("b", 0, 2, 3, 1), ("c", 0, 2, 3, 1)]
        self.assertEqual([self.few(load[:jobs], ONE) for jobs in range(4)], [0, 0, 1, 2])
        load = [(f"j{place}", 5, 5, 16, 16) for place in range(12)]
        self.assertEqual(self.few(load, ONE), 191)
        self.assertEqual(self.few(load, ONE.fewer(5, 5, 1)), 192)

    def test_turns_without_machines(self):
        self.assertEqual(self.few([("a", 0, 3, 2, 1)], Calendar([(9, 0)], 16)), 1)
        self.assertEqual(self.few([("a", 0, 3, 9, 3)], Calendar([(9, 0)], 16)), 3)
        self.assertEqual(self.few([("a", 0, 9, 5, 5)], Calendar([(9, 0)], 4)), 1)
        self.assertEqual(self.few([("a", 0, 10 ** 9, 60, 1)], ONE.fewer(0, 10 ** 9 - 1, 1)), 1)

    def test_far_windows(self):
        far = 10 ** 9
        self.assertEqual(self.few([("a", far, far, 5, 5), ("b", 0, far, 60, 1)], ONE), 4)

    def test_too_long(self):
        for load, name in [
            ([("a", 2, 5, 5, 1)], "a"),
            ([("a", 2, 5, 4, 1), ("b", 2, 5, 9, 2)], "b"),
            ([("c", 5, 4, 1, 16)], "c"),
            ([("c", 5, -1, 1, 16)], "c"),
            ([("a", 0, 9, 1, 1), ("c", 0, 0, 17, 16), ("b", 5, 4, 1, 1)], "c"),
            ([("a", 0, 9, 1, 1), ("b", 5, 4, 1, 1), ("c", 0, 0, 17, 16)], "b"),
        ]:
            self.assertEqual(self.check_refused(TooLong, fewest, load, Calendar([], 16)).name, name)

    def test_just_long_enough(self):
        for work, breadth in [(4, 1), (8, 2), (60, 15)]:
            self.assertEqual(self.few([("a", 2, 5, work, breadth)], ONE), breadth - 1)

    def test_too_long_is_told_behind_all_that_check_load_refuses(self):
        long = ("a", 5, 4, 1, 1)
        for behind, error in [(("A", 0, 1, 1, 1), NoName), (("a", 0, 1, 1, 1), Twice), (("b", 0, 1, 0, 1), NoNumber)]:
            self.check_refused(error, fewest, [long, behind], ONE)

    def test_no_lesser_number_will_do(self):
        chance = random.Random(63)
        seen = set()
        for _ in range(250):
            load = small_load(chance, chance.randint(1, 4), 5, 4, 3)
            calendar = small_calendar(chance, 2)
            if any(job[3] > job[4] * (job[2] - job[1] + 1) for job in load):
                with self.assertRaises(TooLong):
                    fewest(load, calendar)
                continue
            many = self.few(load, calendar)
            for less in range(many):
                self.assertFalse(is_kept(load, calendar.widened(less)))
            if many > 0:
                self.assertGreater(greatest_overflow(load, calendar.widened(many - 1)), 0)
            for more in [1, 2, 9]:
                self.assertTrue(is_kept(load, calendar.widened(many + more)))
            seen.add(min(many, 2))
        self.assertEqual(seen, {0, 1, 2})

    def test_loads_of_many_jobs(self):
        chance = random.Random(64)
        for _ in range(60):
            load = [job for job in small_load(chance, 12, 30, chance.choice([4, 20, 60]), 16)
                    if job[3] <= job[4] * (job[2] - job[1] + 1)]
            calendar = small_calendar(chance, 6)
            self.assertEqual(self.few(load, calendar) == 0, is_kept(load, calendar))

    def test_loads_are_refused_as_check_load_refuses_them(self):
        self.check_refuses_no_loads(fewest, ONE)


class OwnThings(unittest.TestCase):
    LOAD = [("a", 0, 2, 3, 1), ("b", 0, 2, 3, 1)]

    def test_what_is_handed_in_stays_and_what_is_told_is_new(self):
        for tell, number in [(lateness, 3), (fewest, 1)]:
            load, calendar = list(self.LOAD), Calendar([(9, 1)], 1)
            ahead = tell(load, calendar)
            self.assertEqual((ahead[0], ahead[2][1]), (number, ["a", "b"]))
            by, plan, (spans, names) = tell(load, calendar)
            for thing in [plan, spans, names]:
                thing.clear()
            self.assertEqual(tell(load, calendar), ahead)
            self.assertEqual(load, self.LOAD)
            self.assertEqual((calendar.rows(), calendar.rest()), ([], 1))
            load.clear()
            self.assertEqual(tell(list(self.LOAD), calendar), ahead)


if __name__ == "__main__":
    unittest.main()
