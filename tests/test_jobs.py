import copy
import random
import unittest

from dueyard.errors import NoName, NoNumber, TooMany, Twice
from dueyard.jobs import check_load, excess, is_name, later, outside, turns_of, within
from samples import NO_WHOLE_NUMBERS, turns_in, window

JOB = ("a", 3, 7, 9, 2)
FIRST, LAST, WORK, BREADTH = 1, 2, 3, 4
BOUNDS = [(FIRST, 0, 10 ** 9), (LAST, -1, 10 ** 10), (WORK, 1, 60), (BREADTH, 1, 16)]
NO_NAMES = ["", "abcdefghi", "1a", "A", "aB", "a b", " a", "a ", "a\n", "a-b", "a_b", "a;", "\u00e4", "a\u00b2",
            "a\u0663", "\uff41", "~", "a" * 9, "a" * 100, 0, 7, -1, None, True, False, 1.5, b"a", ["a"], ("a",),
            {"a": 1}, {"a"}, [], (), {}, object(), str]


def changed(job, place, value):
    return job[:place] + (value,) + job[place + 1:]


def many_jobs(many):
    return [(f"j{place}", place, place + 3, 2, 1) for place in range(many)]


class Names(unittest.TestCase):
    def test_names(self):
        for name in ["a", "z", "m", "ab", "a1", "z09", "abcdefgh", "a1234567", "zzzzzzzz", "x0y1"]:
            self.assertIs(is_name(name), True, name)

    def test_every_letter_and_figure(self):
        letters = "abcdefghijklmnopqrstuvwxyz"
        for number in range(300):
            sign = chr(number)
            self.assertIs(is_name(sign), sign in letters, number)
            self.assertIs(is_name("q" + sign), sign in letters + "0123456789", number)

    def test_other_things_are_no_names(self):
        for thing in NO_NAMES:
            self.assertIs(is_name(thing), False, repr(thing))

    def test_lengths(self):
        for length in range(12):
            self.assertIs(is_name("abcdefghijkl"[:length]), 1 <= length <= 8, length)
        self.assertIs(is_name("a123456"), True)
        self.assertIs(is_name("1abcdef"), False)


class WindowsAndSpans(unittest.TestCase):
    def test_turns_of(self):
        for first, last, turns in [(3, 7, 5), (3, 3, 1), (3, 2, 0), (3, -1, 0), (0, -1, 0), (0, 0, 1), (9, 0, 0),
                                   (0, 10 ** 10, 10 ** 10 + 1), (10 ** 9, 10 ** 10, 9 * 10 ** 9 + 1)]:
            self.assertEqual(turns_of(("a", first, last, 1, 1)), turns, (first, last))

    def test_spans_beside_across_and_in_the_window(self):
        for spans, inside in [
            ([], 0), ([(0, 2)], 0), ([(8, 20)], 0), ([(0, 1), (9, 9)], 0), ([(0, 3)], 1), ([(0, 4)], 2),
            ([(7, 8)], 1), ([(6, 12)], 2), ([(4, 6)], 3), ([(3, 7)], 5), ([(0, 10 ** 10)], 5), ([(5, 5)], 1),
            ([(0, 0), (3, 3), (5, 5), (7, 7), (9, 9)], 3), ([(1, 3), (6, 10)], 3),
        ]:
            with self.subTest(spans):
                self.assertEqual(within(JOB, spans), inside)
                self.assertEqual(outside(JOB, spans), 5 - inside)
                self.assertEqual(excess(JOB, spans), max(0, 9 - 2 * (5 - inside)))

    def test_empty_windows(self):
        for first, last in [(3, 2), (5, -1), (5, 3), (10 ** 9, 0)]:
            job = ("a", first, last, 4, 3)
            for spans in [[], [(0, 9)], [(2, 3)], [(3, 3)], [(0, 10 ** 10)]]:
                self.assertEqual((within(job, spans), outside(job, spans), excess(job, spans)), (0, 0, 4))

    def test_a_window_of_one_turn(self):
        job = ("a", 4, 4, 5, 2)
        for spans, inside in [([], 0), ([(4, 4)], 1), ([(0, 9)], 1), ([(0, 3), (5, 9)], 0)]:
            self.assertEqual((within(job, spans), outside(job, spans)), (inside, 1 - inside))
            self.assertEqual(excess(job, spans), 5 if inside else 3)

    def test_excess_is_never_below_0(self):
        self.assertEqual(excess(("a", 0, 99, 1, 16), []), 0)
        self.assertEqual(excess(("a", 0, 10 ** 10, 60, 1), [(0, 9)]), 0)
        self.assertEqual(excess(("a", 0, 9, 10, 1), []), 0)
        self.assertEqual(excess(("a", 0, 9, 11, 1), []), 1)
        self.assertEqual(excess(("a", 0, 9, 10, 1), [(9, 9)]), 1)

    def test_far_windows(self):
        job = ("a", 10 ** 9, 10 ** 10, 60, 16)
        spans = [(0, 10 ** 9), (10 ** 10 - 1, 10 ** 10)]
        self.assertEqual(within(job, spans), 3)
        self.assertEqual(outside(job, spans), 9 * 10 ** 9 - 2)
        self.assertEqual(excess(job, spans), 0)
        self.assertEqual(excess(job, [(10 ** 9 + 2, 10 ** 10)]), 60 - 32)

    def test_by_counting_turns(self):
        chance = random.Random(20)
        for _ in range(500):
            first = chance.randint(0, 12)
            job = ("a", first, max(-1, first + chance.randint(-3, 9)), chance.randint(1, 30), chance.randint(1, 4))
            spans = [(start, start + chance.randint(0, 2)) for start in range(0, 24, 4) if chance.random() < 0.6]
            inside, out = window(job) & turns_in(spans), window(job) - turns_in(spans)
            self.assertEqual((turns_of(job), within(job, spans), outside(job, spans), excess(job, spans)),
                             (len(window(job)), len(inside), len(out), max(0, job[3] - job[4] * len(out))))

    def test_spans_handed_in_stay(self):
        spans = [(0, 3), (5, 9)]
        for ask in [within, outside, excess]:
            ask(JOB, spans)
        self.assertEqual(spans, [(0, 3), (5, 9)])


class CheckLoad(unittest.TestCase):
    def refused(self, error, load):
        ahead = copy.copy(load)
        with self.assertRaises(error) as caught:
            check_load(load)
        self.assertIs(caught.exception.__class__, error)
        self.assertEqual(len(load), len(ahead))
        for job, old in zip(load, ahead):
            self.assertIs(job, old)
        return caught.exception

    def test_loads(self):
        for load in [[], [JOB], [JOB, changed(JOB, 0, "b")], many_jobs(11), many_jobs(12)]:
            ahead = list(load)
            self.assertIs(check_load(load), True)
            self.assertEqual(load, ahead)

    def test_too_many_jobs(self):
        for many in [13, 14, 40]:
            self.refused(TooMany, many_jobs(many))

    def test_the_bounds_are_within(self):
        for place, low, high in BOUNDS:
            for number in [low, low + 1, high - 1, high]:
                self.assertIs(check_load([changed(JOB, place, number)]), True, (place, number))

    def test_beyond_the_bounds(self):
        for place, low, high in BOUNDS:
            for number in [low - 1, low - 2, high + 1, -high, 10 ** 30, -(10 ** 30)]:
                self.refused(NoNumber, [changed(JOB, place, number)])
                self.refused(NoNumber, [changed(JOB, 0, "b"), changed(JOB, place, number)])

    def test_things_in_the_place_of_numbers(self):
        for place, low, high in BOUNDS:
            for thing in NO_WHOLE_NUMBERS:
                self.refused(NoNumber, [changed(JOB, place, thing)])

    def test_windows_may_be_empty(self):
        for first, last in [(0, -1), (10 ** 9, -1), (5, 4), (10 ** 9, 10 ** 10)]:
            self.assertIs(check_load([("a", first, last, 1, 1)]), True)

    def test_no_names(self):
        for thing in NO_NAMES:
            self.refused(NoName, [changed(JOB, 0, thing)])
            self.refused(NoName, [JOB, changed(JOB, 0, thing)])

    def test_a_name_twice(self):
        for load, name in [
            ([JOB, JOB], "a"),
            ([JOB, ("b", 0, 1, 1, 1), ("a", 0, 1, 1, 1)], "a"),
            ([JOB, ("b", 0, 1, 1, 1), ("c", 0, 1, 1, 1), ("b", 5, 6, 7, 8)], "b"),
            ([JOB, ("b2", 0, 1, 1, 1), ("b2", 0, 1, 1, 1), ("a", 5, 6, 7, 8)], "b2"),
            (many_jobs(11) + [("j0", 0, 0, 1, 1)], "j0"),
        ]:
            self.assertEqual(self.refused(Twice, load).name, name)

    def test_names_that_are_nearly_alike(self):
        names = ["a", "aa", "a1", "a11", "aaa", "b", "ab", "ba", "abcdefgh", "abcdefg", "a01", "a10"]
        self.assertIs(check_load([changed(JOB, 0, name) for name in names]), True)

    def test_too_many_is_told_ahead_of_all(self):
        self.refused(TooMany, [("A", -1, "x", 0, 0)] * 13)
        self.refused(TooMany, [JOB] * 13)
        self.refused(TooMany, [changed(JOB, WORK, 0)] + many_jobs(12))

    def test_the_first_job_at_fault(self):
        no_name, no_number = changed(JOB, 0, "B"), changed(JOB, WORK, 0)
        self.refused(NoNumber, [no_number, no_name, JOB, JOB])
        self.refused(NoName, [no_name, no_number, JOB, JOB])
        self.refused(Twice, [JOB, JOB, no_name, no_number])
        self.refused(NoNumber, [no_number, JOB, JOB])
        self.refused(NoNumber, [no_number, no_number])
        self.refused(NoName, [no_name, no_name])
        self.refused(NoName, [JOB, no_name, JOB])
        self.refused(NoNumber, [JOB, changed(no_number, 0, "b"), JOB, no_name])

    def test_two_faults_of_one_job(self):
        for place, low, high in BOUNDS:
            self.refused(NoName, [changed(changed(JOB, place, low - 1), 0, "1")])
            self.refused(NoName, [changed(changed(JOB, place, None), 0, None)])
            self.assertEqual(self.refused(Twice, [JOB, changed(JOB, place, high + 1)]).name, "a")

    def test_alike_loads_are_told_alike(self):
        load = [JOB, JOB]
        for _ in range(3):
            self.refused(Twice, load)
            self.assertIs(check_load([JOB]), True)


class Later(unittest.TestCase):
    def test_each_last_is_greater(self):
        load = [("a", 3, 7, 9, 2), ("b", 0, -1, 1, 1), ("c", 10 ** 9, 10 ** 10, 60, 16)]
        for by in [0, 1, 2, 17, 10 ** 9, 10 ** 10]:
            told = later(load, by)
            self.assertEqual(told, [("a", 3, 7 + by, 9, 2), ("b", 0, by - 1, 1, 1),
                                    ("c", 10 ** 9, 10 ** 10 + by, 60, 16)])
            self.assertIs(told.__class__, list)
            self.assertTrue(all(job.__class__ is tuple for job in told))

    def test_no_jobs(self):
        self.assertEqual(later([], 5), [])

    def test_nothing_is_refused(self):
        self.assertEqual(len(later(many_jobs(13), 1)), 13)
        self.assertEqual(later([JOB, JOB], 1), [("a", 3, 8, 9, 2)] * 2)
        self.assertEqual(later([("A", 0, 0, 0, 0)], 2), [("A", 0, 2, 0, 0)])

    def test_the_load_stays_and_the_told_one_is_new(self):
        load = [JOB, ("b", 0, 1, 1, 1)]
        for by in [0, 4]:
            told = later(load, by)
            self.assertIsNot(told, load)
            told.append(JOB)
            told[0] = None
            self.assertEqual(load, [JOB, ("b", 0, 1, 1, 1)])
            self.assertEqual(later(load, by), [("a", 3, 7 + by, 9, 2), ("b", 0, 1 + by, 1, 1)])
        told = later(load, 0)
        load.clear()
        self.assertEqual(told, [JOB, ("b", 0, 1, 1, 1)])


if __name__ == "__main__":
    unittest.main()
