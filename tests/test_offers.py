import random
import unittest

from dueyard.calendars import Calendar
from dueyard.errors import NoJob, NoName, NoNumber, NoPlan, TooMany, Twice
from dueyard.offers import offer, room, soonest
from dueyard.verdicts import settled
from samples import NO_WHOLE_NUMBERS, Refusing, does_all, is_paper, small_calendar, small_load

ONE = Calendar([], 1)
TWO = Calendar([], 2)
FAR = 10 ** 9
LOAD = [("a", 2, 5, 3, 1), ("b", 0, 9, 4, 2)]
TWELVE = [(f"j{place}", 0, 99, 1, 1) for place in range(12)]
TOO_FULL = [("a", 0, 2, 4, 1)]


def is_kept(load, calendar):
    return settled(load, calendar).kept()


def random_kept_load(chance, jobs, work):
    """A load and a calendar that keeps it."""
    calendar = small_calendar(chance, chance.choice([1, 3, 5]))
    load = []
    for job in small_load(chance, jobs, 14, work):
        if is_kept(load + [job], calendar):
            load.append(job)
    return load, calendar


def some_last(name, first):
    """Some last turn for a job whose soonest end is asked for: it makes no difference."""
    return (first * 7 + len(name)) % 23 - 1


class RefusingNewJobs(Refusing):
    def check_refuses_new_jobs(self, tell, wrong_numbers):
        """Points 71 and 73: behind a new job's first turn stands its work, or its last turn; 1 is both."""
        self.check_refuses_no_loads(tell, ONE, "new", 0, 1)
        self.check_refused(TooMany, tell, TWELVE, ONE, "A", 0, 1)
        self.check_refused(TooMany, tell, TWELVE, ONE, "new", 0, 1)
        tell(TWELVE[1:], ONE, "new", 0, 1)
        for name in ["", "A", "1a", "abcdefghi", None, 7, ["a"]]:
            self.check_refused(NoName, tell, LOAD, ONE, name, -1, wrong_numbers[0])
        self.assertEqual(self.check_refused(Twice, tell, LOAD, ONE, "b", -1, 1).name, "b")
        for first in [-1, FAR + 1] + NO_WHOLE_NUMBERS:
            self.check_refused(NoNumber, tell, LOAD, ONE, "new", first, 1)
        for number in wrong_numbers + NO_WHOLE_NUMBERS:
            self.check_refused(NoNumber, tell, LOAD, ONE, "new", 0, number)
        for breadth in [0, 17, -1] + NO_WHOLE_NUMBERS:
            self.check_refused(NoNumber, tell, LOAD, ONE, "new", 0, 1, breadth)
        for load in [TOO_FULL, [("a", 5, 4, 1, 1)]]:
            self.check_refused(NoPlan, tell, load, ONE, "new", 50, 60)
            self.check_refused(NoName, tell, load, ONE, "", 50, 60)
            self.check_refused(Twice, tell, load, ONE, "a", 50, 60)
            self.check_refused(NoNumber, tell, load, ONE, "new", 50, 60, 0)


class Offers(RefusingNewJobs):
    def check_told(self, told, until, calendar, first):
        """Points 71 to 74; until tells the load for each last turn of the job."""
        self.assertIs(told.__class__, tuple)
        last, plan, paper = told
        self.assertGreaterEqual(last, first)
        self.assertTrue(does_all(until(last), calendar, plan), told)
        self.assertTrue(is_paper(paper, until(last - 1), calendar), told)
        self.assertTrue(is_kept(until(last + 1), calendar))
        self.assertFalse(is_kept(until(last - 1), calendar))
        return last

    def soonest_at(self, load, calendar, job, place):
        name, first, work, breadth = job

        def until(turn):
            return load[:place] + [(name, first, turn, work, breadth)] + load[place:]

        told = soonest(until(some_last(name, first)), calendar, name)
        return self.check_told(told, until, calendar, first)

    def both(self, load, calendar, job):
        """The last turn that an offer tells, which is the soonest end at each place of the load."""
        name, first, work, breadth = job
        told = offer(load, calendar, name, first, work, breadth)
        last = self.check_told(told, lambda turn: load + [(name, first, turn, work, breadth)], calendar, first)
        for place in range(len(load) + 1):
            self.assertEqual(self.soonest_at(load, calendar, job, place), last)
        return last

    def test_a_yard_without_jobs(self):
        for first, work, breadth, last in [
            (0, 1, 1, 0), (0, 2, 1, 1), (0, 2, 2, 0), (0, 3, 2, 1), (0, 60, 16, 29), (7, 60, 1, 66), (7, 1, 16, 7),
            (FAR, 1, 1, FAR), (FAR, 60, 1, FAR + 59),
        ]:
            self.assertEqual(self.both([], TWO, ("new", first, work, breadth)), last, (first, work, breadth))

    def test_beside_others(self):
        for first, work, breadth, last in [
            (0, 1, 1, 0), (0, 3, 1, 2), (0, 4, 1, 10), (3, 1, 1, 3), (3, 3, 1, 5), (3, 4, 1, 10), (3, 5, 1, 11),
            (10, 2, 9, 11),
        ]:
            load = [("a", 0, 9, 3, 1), ("b", 2, 9, 4, 1)]
            self.assertEqual(self.both(load, ONE, ("new", first, work, breadth)), last, (first, work, breadth))

    def test_turns_without_machines(self):
        calendar = Calendar([(2, 1), (10 ** 6, 0), (1, 1), (10 ** 6, 0)], 2)
        for first, work, breadth, last in [
            (0, 2, 1, 1), (0, 3, 1, 10 ** 6 + 2), (0, 4, 9, 2 * 10 ** 6 + 3), (0, 6, 2, 2 * 10 ** 6 + 4),
            (2, 1, 1, 10 ** 6 + 2), (10 ** 6 + 3, 1, 1, 2 * 10 ** 6 + 3),
        ]:
            self.assertEqual(self.both([], calendar, ("new", first, work, breadth)), last, (first, work, breadth))
        calendar = ONE.fewer(3, FAR - 1, 1)
        self.assertEqual(self.both([("a", 0, 1, 2, 1)], calendar, ("new", 0, 1, 1)), 2)
        self.assertEqual(self.both([("a", 0, 2, 3, 1)], calendar, ("new", 0, 1, 1)), FAR)
        self.assertEqual(self.both([("a", 0, FAR, 4, 1)], calendar, ("new", 0, 3, 1)), FAR + 3)

    def test_others_that_stand_in_the_way(self):
        load = [(f"j{place}", 0, 659, 60, 1) for place in range(11)]
        self.assertEqual(self.both(load, ONE, ("new", 0, 60, 1)), 719)
        self.assertEqual(self.both(load, ONE, ("new", 0, 60, 16)), 719)
        sixteen = Calendar([], 16)
        self.assertEqual(self.both([("a", 0, 0, 16, 16)], sixteen, ("new", 0, 1, 1)), 1)
        self.assertEqual(self.both([("a", 0, 2, 48, 16)], sixteen, ("new", 0, 17, 16)), 4)

    def test_the_breadth_left_out_by_place_and_by_name(self):
        self.assertEqual(offer([], TWO, "new", 3, 4), offer([], TWO, "new", 3, 4, 1))
        self.assertEqual(offer([], TWO, "new", 3, 4)[0], 6)
        self.assertEqual(offer([], TWO, "new", 3, 4, breadth=1)[0], 6)
        self.assertEqual(offer([], TWO, "new", 3, 4, breadth=2)[0], 4)
        self.assertEqual(offer([], TWO, "new", 3, 4, 2)[0], 4)

    def test_last_being_first(self):
        last, plan, paper = offer([], TWO, "new", 0, 1)
        self.assertEqual((last, [(turn, name) for turn, machine, name in plan]), (0, [(0, "new")]))
        self.assertEqual(paper[1], ["new"])

    def test_any_loads(self):
        chance = random.Random(71)
        for _ in range(80):
            load, calendar = random_kept_load(chance, chance.randint(0, 5), 5)
            job = ("new", chance.randint(0, 15), chance.randint(1, 9), chance.randint(1, 3))
            last = self.both(load, calendar, job)
            for turn in range(job[1] - 1 if job[1] > 0 else 0, last):
                self.assertFalse(is_kept(load + [("new", job[1], turn, job[2], job[3])], calendar))

    def test_loads_of_many_jobs(self):
        chance = random.Random(72)
        for _ in range(25):
            load, calendar = random_kept_load(chance, 11, 60)
            job = ("new", chance.randint(0, 30), chance.randint(1, 60), chance.choice([1, 4, 16]))
            self.both(load, calendar, job)

    def test_the_last_in_the_load_makes_no_difference(self):
        told = soonest([LOAD[0], ("new", 3, 3, 5, 1), LOAD[1]], ONE, "new")
        for last in [-1, 0, 2, 4, 9, 10 ** 6, FAR]:
            self.assertEqual(soonest([LOAD[0], ("new", 3, last, 5, 1), LOAD[1]], ONE, "new"), told)

    def test_an_offer_is_refused(self):
        self.check_refuses_new_jobs(offer, [0, 61, -1])

    def test_the_soonest_end_is_refused(self):
        self.check_refuses_no_loads(soonest, ONE, "none")
        for name in ["none", "", "A", "aa", " a"]:
            self.assertEqual(self.check_refused(NoJob, soonest, LOAD, ONE, name).name, name)
        self.assertEqual(self.check_refused(NoJob, soonest, [], ONE, "a").name, "a")
        self.check_refused(NoJob, soonest, TOO_FULL, ONE, "b")
        self.check_refused(NoPlan, soonest, TOO_FULL + [("b", 20, 30, 1, 1)], ONE, "b")
        self.assertEqual(soonest(TOO_FULL + [("b", 20, 30, 1, 1)], ONE, "a")[0], 3)
        self.assertEqual(soonest(TOO_FULL, ONE, "a")[0], 3)

    def test_twelve_jobs_may_be_asked_for_the_soonest_end(self):
        self.assertEqual(soonest(TWELVE, ONE, "j7")[0], 0)


class Room(RefusingNewJobs):
    def roomy(self, load, calendar, first, last, breadth):
        """Points 73 and 74."""
        told = room(load, calendar, "new", first, last, breadth)
        self.assertIs(told.__class__, tuple)
        work, plan, paper = told

        def with_work(some):
            return load + [("new", first, last, some, breadth)]

        self.assertTrue(does_all(with_work(work) if work > 0 else load, calendar, plan), (load, told))
        if work == 60:
            self.assertIsNone(paper)
        else:
            self.assertTrue(is_paper(paper, with_work(work + 1), calendar), (load, told))
            self.assertFalse(is_kept(with_work(work + 1), calendar))
        return work

    def test_a_yard_without_jobs(self):
        for first, last, breadth, work in [
            (0, 0, 1, 1), (0, 0, 2, 2), (0, 0, 3, 2), (3, 5, 1, 3), (3, 5, 16, 6), (0, 29, 2, 60), (0, 28, 2, 58),
            (0, 59, 1, 60), (0, 58, 1, 59), (0, 60, 1, 60), (5, 4, 1, 0), (5, -1, 16, 0), (FAR, FAR, 2, 2),
            (FAR, 10 ** 10, 1, 60),
        ]:
            self.assertEqual(self.roomy([], TWO, first, last, breadth), work, (first, last, breadth))

    def test_beside_others(self):
        load = [("a", 0, 4, 3, 1), ("b", 2, 9, 4, 1)]
        for first, last, work in [(0, 9, 3), (0, 4, 2), (0, 1, 2), (2, 4, 2), (5, 9, 3), (10, 12, 3), (9, 10, 2)]:
            self.assertEqual(self.roomy(load, ONE, first, last, 1), work, (first, last))
        self.assertEqual(self.roomy([("a", 3, 5, 3, 1)], ONE, 3, 5, 1), 0)

    def test_turns_without_machines(self):
        calendar = Calendar([(2, 1), (10 ** 6, 0)], 1)
        for first, last, work in [(0, 10 ** 6, 2), (0, 10 ** 6 + 2, 3), (2, 10 ** 6 + 1, 0), (2, 10 ** 6 + 70, 60)]:
            self.assertEqual(self.roomy([], calendar, first, last, 1), work, (first, last))

    def test_the_breadth_left_out_by_place_and_by_name(self):
        self.assertEqual(room([], TWO, "new", 3, 6), room([], TWO, "new", 3, 6, 1))
        self.assertEqual(room([], TWO, "new", 3, 6)[0], 4)
        self.assertEqual(room([], TWO, "new", 3, 6, breadth=2)[0], 8)
        self.assertEqual(room([], TWO, "new", 3, 6, 2)[0], 8)

    def test_no_room_and_all_room(self):
        load = [("a", 3, 5, 3, 1)]
        work, plan, paper = room(load, ONE, "new", 3, 5)
        self.assertEqual((work, plan), (0, [(3, 0, "a"), (4, 0, "a"), (5, 0, "a")]))
        self.assertEqual(paper, ([(3, 5)], ["a", "new"]))
        self.assertEqual(room([], ONE, "new", 0, 99)[::2], (60, None))

    def test_any_loads(self):
        chance = random.Random(73)
        seen = set()
        for _ in range(150):
            load, calendar = random_kept_load(chance, chance.randint(0, 6), 5)
            first, breadth = chance.randint(0, 15), chance.randint(1, 3)
            last = max(-1, first + chance.randint(-2, 12))
            work = self.roomy(load, calendar, first, last, breadth)
            for some in range(1, work + 1):
                self.assertTrue(is_kept(load + [("new", first, last, some, breadth)], calendar))
            seen.add(min(work, 3))
        self.assertEqual(seen, {0, 1, 2, 3})

    def test_loads_of_many_jobs(self):
        chance = random.Random(74)
        for _ in range(40):
            load, calendar = random_kept_load(chance, 11, 60)
            self.roomy(load, calendar, chance.randint(0, 9), chance.randint(0, 40), chance.choice([1, 4, 16]))

    def test_refused(self):
        self.check_refuses_new_jobs(room, [-2, 10 ** 10 + 1])
        self.check_refused(NoPlan, room, TOO_FULL, ONE, "new", 50, 49)


class OwnThings(unittest.TestCase):
    def test_what_is_handed_in_stays_and_what_is_told_is_new(self):
        for tell in [
            lambda load, calendar: offer(load, calendar, "new", 2, 4),
            lambda load, calendar: soonest(load, calendar, "a"),
            lambda load, calendar: room(load, calendar, "new", 2, 5),
        ]:
            load, calendar = list(LOAD), Calendar([(9, 1)], 1)
            ahead = tell(load, calendar)
            number, plan, (spans, names) = tell(load, calendar)
            for thing in [plan, spans, names]:
                thing.append("more")
            self.assertEqual(tell(load, calendar), ahead)
            self.assertEqual(load, LOAD)
            self.assertEqual((calendar.rows(), calendar.rest()), ([], 1))
            load.clear()
            self.assertEqual(tell(list(LOAD), calendar), ahead)


if __name__ == "__main__":
    unittest.main()
