import copy
import itertools
import random
import unittest

from dueyard.calendars import Calendar
from dueyard.verdicts import Full, Kept, Verdict, overflow, settled
from samples import (Refusing, does_all, faults_by_words, greatest_overflow, is_kept_form, is_paper, least_undone,
                     overflow_by_words, overflow_of_turns, small_calendar, small_load, turns_in, undone_by_words)

ONE = Calendar([], 1)
TWO = Calendar([], 2)
FAR = 10 ** 10
LOAD = [("a", 2, 5, 3, 1), ("b", 0, 9, 4, 2)]


class Overflow(Refusing):
    def test_below_nothing_nothing_and_above(self):
        for load, spans, told in [
            ([("a", 2, 5, 3, 1)], [(2, 5)], -1),
            ([("a", 2, 5, 4, 1)], [(2, 5)], 0),
            ([("a", 2, 5, 5, 1)], [(2, 5)], 1),
            ([("a", 2, 5, 5, 1)], [(2, 4)], 1),
            ([("a", 2, 5, 5, 2)], [(2, 4)], 0),
            ([("a", 2, 5, 5, 2)], [(2, 2), (4, 5)], 0),
            ([("a", 0, 1, 3, 2), ("b", 0, 1, 2, 2)], [(0, 1)], 3),
            ([("a", 0, 1, 3, 2), ("b", 0, 1, 2, 2)], [(0, 0)], 0),
            ([("a", 0, 1, 3, 2), ("b", 9, 9, 2, 2)], [(0, 1)], 1),
            ([("a", 0, 1, 3, 2), ("b", 9, 9, 2, 2)], [(0, 1), (9, 9)], 2),
        ]:
            self.assertEqual(overflow(load, ONE, spans), told, (load, spans))

    def test_no_spans(self):
        for load, told in [([], 0), (LOAD, 0), ([("a", 2, 5, 6, 1)], 2), ([("a", 5, 4, 7, 3), ("b", 0, 3, 60, 1)], 63)]:
            self.assertEqual(overflow(load, ONE, []), told, load)

    def test_spans_about_the_windows(self):
        load = [("a", 10, 19, 9, 1)]
        for spans, told in [
            ([(0, 9)], -20), ([(20, 29)], -20), ([(0, 10)], -22), ([(0, 18)], -30), ([(0, 29)], -51),
            ([(10, 19)], -11), ([(12, 13)], -3), ([(0, 5), (10, 19), (30, 30)], -25), ([(19, 19)], -2),
        ]:
            self.assertEqual(overflow(load, TWO, spans), told, spans)

    def test_no_jobs(self):
        self.assertEqual(overflow([], TWO, [(3, 5), (9, 9)]), -8)

    def test_far_turns(self):
        load = [("a", 10 ** 9, FAR, 60, 1), ("b", 0, -1, 5, 3)]
        self.assertEqual(overflow(load, ONE, [(0, FAR)]), 65 - FAR - 1)
        self.assertEqual(overflow(load, ONE, [(FAR, FAR)]), 4)
        calendar = ONE.fewer(0, FAR, 1)
        self.assertEqual(overflow(load, calendar, [(10 ** 9 + 1, FAR)]), 64)
        self.assertEqual(overflow(load, calendar, [(0, FAR)]), 65)

    def test_turns_without_machines(self):
        calendar = Calendar([(3, 0), (2, 5)], 1)
        self.assertEqual(overflow([("a", 0, 3, 4, 3)], calendar, [(0, 2)]), 1)
        self.assertEqual(overflow([("a", 0, 3, 4, 3)], calendar, [(0, 3)]), -1)

    def test_turn_by_turn(self):
        chance = random.Random(50)
        for _ in range(400):
            load, calendar = small_load(chance, chance.randint(0, 6)), small_calendar(chance)
            spans, turn = [], chance.randint(0, 3)
            for _ in range(chance.randint(0, 4)):
                spans.append((turn, turn + chance.randint(0, 3)))
                turn = spans[-1][1] + chance.randint(2, 4)
            told = overflow(load, calendar, spans)
            self.assertEqual(told, overflow_of_turns(load, calendar, turns_in(spans)), (load, spans))
            self.assertEqual(told, overflow_by_words(load, calendar, spans))

    def test_loads_are_refused_as_check_load_refuses_them(self):
        self.check_refuses_no_loads(overflow, ONE, [])

    def test_what_is_handed_in_stays(self):
        load, spans = list(LOAD), [(2, 3), (5, 5)]
        self.assertEqual(overflow(load, ONE, spans), overflow(load, ONE, spans))
        self.assertEqual((load, spans), (LOAD, [(2, 3), (5, 5)]))


class Settled(Refusing):
    def checked(self, load, calendar):
        """Points 51 and 52."""
        verdict = settled(load, calendar)
        self.assertEqual((verdict.load, verdict.calendar), (load, calendar))
        self.assertEqual(faults_by_words(load, calendar, verdict.plan), [], (load, calendar.rows()))
        self.assertEqual(verdict.plan, sorted(verdict.plan))
        if verdict.kept():
            self.assertIs(verdict.__class__, Kept)
            self.assertTrue(does_all(load, calendar, verdict.plan))
        else:
            self.assertIs(verdict.__class__, Full)
            self.assertGreaterEqual(verdict.lack, 1)
            self.assertEqual(sum(undone_by_words(load, verdict.plan)), verdict.lack)
            self.assertTrue(is_kept_form(verdict.spans))
            self.assertEqual(overflow(load, calendar, verdict.spans), verdict.lack)
            self.assertTrue(is_paper((verdict.spans, verdict.names), load, calendar))
        self.assertIs(verdict.holds(), True)
        return verdict

    def lack(self, load, calendar):
        verdict = self.checked(load, calendar)
        return 0 if verdict.kept() else verdict.lack

    def test_no_jobs(self):
        verdict = self.checked([], ONE)
        self.assertEqual(verdict.told(), ("kept", []))

    def test_one_job(self):
        for first, last, work, breadth, lack in [
            (2, 5, 4, 1, 0), (2, 5, 5, 1, 1), (2, 5, 8, 2, 0), (2, 5, 9, 2, 1), (2, 5, 9, 16, 1), (5, 4, 1, 1, 1),
            (5, -1, 60, 16, 60), (0, 0, 1, 1, 0), (0, 0, 3, 3, 1), (10 ** 9, FAR, 60, 1, 0),
            (10 ** 9, 10 ** 9, 9, 9, 7),
        ]:
            self.assertEqual(self.lack([("a", first, last, work, breadth)], TWO), lack, (first, last, work, breadth))

    def test_one_piece_of_work_too_much(self):
        load = [("a", 0, 2, 3, 1), ("b", 0, 5, 3, 1)]
        self.assertEqual(self.lack(load, ONE), 0)
        self.assertEqual(self.lack(load + [("c", 1, 4, 1, 1)], ONE), 1)

    def test_empty_windows(self):
        verdict = self.checked([("a", 5, 4, 7, 3), ("b", 0, 3, 2, 1), ("c", 9, -1, 1, 1)], ONE)
        self.assertEqual((verdict.lack, verdict.names), (8, ["a", "c"]))

    def test_turns_without_machines(self):
        calendar = Calendar([(4, 0), (2, 1)], 1)
        self.assertEqual(self.lack([("a", 0, 3, 2, 1)], calendar), 2)
        self.assertEqual(self.lack([("a", 0, 4, 2, 2)], calendar), 1)
        self.assertEqual(self.lack([("a", 0, 5, 2, 1)], calendar), 0)
        self.assertEqual(self.lack([("a", 0, FAR, 60, 1)], ONE.fewer(0, FAR - 9, 1)), 51)

    def test_the_names_are_in_the_order_of_the_load(self):
        load = [("z", 0, 1, 2, 1), ("b", 0, 1, 2, 1), ("m", 7, 9, 1, 1), ("a", 0, 1, 1, 1)]
        names = self.checked(load, ONE).names
        self.assertEqual(names[:2], ["z", "b"])
        self.assertEqual(self.checked(load[::-1], ONE).names[-2:], ["b", "z"])

    def test_kept_just_where_no_set_overflows(self):
        chance = random.Random(51)
        lacks = set()
        for _ in range(250):
            load = small_load(chance, chance.randint(1, 4), 5, 4, 2)
            calendar = small_calendar(chance, 2)
            lack = self.lack(load, calendar)
            self.assertEqual(lack, greatest_overflow(load, calendar), (load, calendar.rows()))
            self.assertEqual(lack, least_undone(load, calendar), (load, calendar.rows()))
            lacks.add(min(lack, 2))
        self.assertEqual(lacks, {0, 1, 2})

    def test_small_loads_gone_through_whole(self):
        windows = [(0, -1), (0, 0), (0, 1), (1, 2), (0, 2)]
        jobs = list(itertools.product(windows, [1, 2, 3], [1, 2]))
        for one, other in itertools.combinations_with_replacement(jobs, 2):
            load = [("a", *one[0], *one[1:]), ("b", *other[0], *other[1:])]
            calendar = Calendar([(1, 1), (1, 0)], 2)
            self.assertEqual(self.lack(load, calendar), greatest_overflow(load, calendar), load)

    def test_loads_of_many_jobs(self):
        chance = random.Random(52)
        kinds = set()
        for _ in range(150):
            load = small_load(chance, chance.choice([6, 12]), 30, chance.choice([4, 20, 60]), 4)
            kinds.add(self.checked(load, small_calendar(chance, 6)).word())
        self.assertEqual(kinds, {"kept", "full"})

    def test_any_order_of_the_jobs(self):
        chance = random.Random(53)
        for _ in range(40):
            load, calendar = small_load(chance, 6, 10, 8), small_calendar(chance)
            lack = self.lack(load, calendar)
            for _ in range(4):
                chance.shuffle(load)
                self.assertEqual(self.lack(load, calendar), lack)

    def test_never_do_both_kinds_hold(self):
        chance = random.Random(54)
        for _ in range(60):
            load, calendar = small_load(chance, 4, 8, 5), small_calendar(chance)
            verdict = settled(load, calendar)
            if verdict.kept():
                for lack in [-1, 0, 1, 2]:
                    self.assertFalse(Full(load, calendar, verdict.plan, lack, [], []).holds())
                    self.assertFalse(Full(load, calendar, verdict.plan[1:], lack, [], []).holds())
            else:
                self.assertFalse(Kept(load, calendar, verdict.plan).holds())

    def test_loads_are_refused_as_check_load_refuses_them(self):
        self.check_refuses_no_loads(settled, ONE)


class Plain(unittest.TestCase):
    def test_a_plain_one_holds_never(self):
        for plan in [[], [(2, 0, "a")], settled(LOAD, ONE).plan]:
            verdict = Verdict(LOAD, ONE, plan)
            self.assertEqual((verdict.kept(), verdict.word(), verdict.holds()), (False, "open", False))
            self.assertEqual(verdict.told(), ("open", plan))
        self.assertIs(Verdict([], ONE, []).holds(), False)

    def test_the_kinds(self):
        self.assertEqual((Kept.__bases__, Full.__bases__), ((Verdict,), (Verdict,)))


class KeptByHand(unittest.TestCase):
    PLAN = [(2, 0, "a"), (2, 1, "b"), (3, 0, "a"), (3, 1, "b"), (4, 0, "a"), (7, 0, "b"), (7, 1, "b")]

    def holds(self, plan, load=LOAD, calendar=TWO):
        verdict = Kept(load, calendar, plan)
        self.assertEqual((verdict.kept(), verdict.word(), verdict.told()), (True, "kept", ("kept", plan)))
        return verdict.holds()

    def test_one_that_holds(self):
        self.assertIs(self.holds(self.PLAN), True)
        self.assertIs(self.holds(self.PLAN[::-1]), True)
        self.assertIs(self.holds([], []), True)

    def test_spoilt(self):
        rows = self.PLAN
        for plan in [
            rows[1:], rows[:-1], rows + [(9, 0, "b")], rows + [(9, 0, "none")], rows + rows[:1],
            rows[:-1] + [(7, 2, "b")], rows[:-1] + [(10, 0, "b")], rows[:-1] + [(7, 1, "a")], [(1, 0, "a")] + rows[1:],
            rows[:-1] + [(7, 0, "b")], [(3, 1, "a")] + rows[1:3] + rows[4:] + [(5, 0, "b")], [],
        ]:
            self.assertIs(self.holds(plan), False, plan)
        self.assertIs(self.holds(rows, LOAD, ONE), False)
        self.assertIs(self.holds(rows, [LOAD[0], ("b", 0, 9, 5, 2)]), False)
        self.assertIs(self.holds(rows, [LOAD[0], ("b", 0, 9, 4, 1)]), False)
        self.assertIs(self.holds(rows, [LOAD[0], ("b", 0, 6, 4, 2)]), False)
        self.assertIs(self.holds([], LOAD), False)


class FullByHand(unittest.TestCase):
    # All that a and b want, 10, must fall into the turns from 2 to 7, where one machine has 6.
    LOAD = [("z", 9, 9, 1, 1), ("b", 2, 7, 7, 2), ("a", 2, 5, 3, 1)]
    PLAN = [(2, 0, "a"), (3, 0, "a"), (4, 0, "a"), (5, 0, "b"), (6, 0, "b"), (7, 0, "b"), (9, 0, "z")]
    PARTS = (4, [(2, 7)], ["b", "a"])

    def holds(self, plan, lack, spans, names, load=None, calendar=ONE):
        verdict = Full(self.LOAD if load is None else load, calendar, plan, lack, spans, names)
        self.assertEqual((verdict.kept(), verdict.word()), (False, "full"))
        self.assertEqual(verdict.told(), ("full", plan, lack, spans, names))
        self.assertEqual((verdict.lack, verdict.spans, verdict.names), (lack, spans, names))
        return verdict.holds()

    def test_one_that_holds(self):
        self.assertIs(self.holds(self.PLAN, *self.PARTS), True)
        self.assertIs(self.holds(self.PLAN[::-1], *self.PARTS), True)
        self.assertIs(self.holds([], 7, [], ["a"], [("a", 5, 4, 7, 2)]), True)

    def test_the_plan_spoilt(self):
        rows = self.PLAN
        for plan in [
            rows[1:], rows[:-1], rows + [(8, 0, "z")], rows + [(9, 0, "none")], rows + [(7, 1, "b")],
            rows[:-1] + [(9, 1, "z")], rows[:-1] + [(8, 0, "z")], rows[:-1] + [(9, 0, "b")], [],
        ]:
            self.assertIs(self.holds(plan, *self.PARTS), False, plan)
            lack = sum(undone_by_words(self.LOAD, plan))
            self.assertIs(self.holds(plan, lack, *self.PARTS[1:]), False, plan)

    def test_the_lack_spoilt(self):
        for lack in [5, 3, 1, 0, -1, -4]:
            self.assertIs(self.holds(self.PLAN, lack, *self.PARTS[1:]), False, lack)

    def test_the_lack_is_what_is_undone_and_what_overflows(self):
        # Here the plan leaves 1 more undone than the spans overflow.
        self.assertIs(self.holds(self.PLAN[:-1], 5, *self.PARTS[1:]), False)
        self.assertIs(self.holds(self.PLAN[:-1], 4, *self.PARTS[1:]), False)

    def test_nothing_lacks(self):
        load, plan = [("a", 0, 0, 1, 1)], [(0, 0, "a")]
        self.assertEqual(overflow(load, ONE, [(0, 0)]), 0)
        self.assertIs(self.holds(plan, 0, [(0, 0)], ["a"], load), False)
        self.assertIs(self.holds([], 0, [], [], []), False)
        self.assertIs(self.holds(plan, -1, [(0, 1)], ["a"], load), False)

    def test_the_spans_spoilt(self):
        for spans in [[], [(2, 6)], [(3, 7)], [(2, 8)], [(1, 7)], [(2, 7), (11, 11)], [(2, 5)], [(2, 3), (5, 7)]]:
            self.assertIs(self.holds(self.PLAN, 4, spans, ["b", "a"]), False, spans)

    def test_the_names_spoilt(self):
        for names in [["a", "b"], ["b"], ["a"], [], ["z", "b", "a"], ["b", "a", "a"], ["b", "b", "a"], ["b", "a", "c"],
                      ["b", "A"], ["ba"]]:
            self.assertIs(self.holds(self.PLAN, 4, [(2, 7)], names), False, names)

    def test_another_load_or_calendar(self):
        self.assertIs(self.holds(self.PLAN, *self.PARTS, load=self.LOAD[::-1]), False)
        self.assertIs(self.holds(self.PLAN, *self.PARTS, calendar=TWO), False)
        self.assertIs(self.holds(self.PLAN, *self.PARTS, load=self.LOAD[1:]), False)


class OwnThings(unittest.TestCase):
    LOAD = [("a", 0, 2, 3, 1), ("b", 0, 2, 2, 1)]

    def test_the_fields_are_lists_of_its_own(self):
        load, plan, spans, names = list(self.LOAD), [(0, 0, "a")], [(0, 2)], ["a", "b"]
        verdicts = [Verdict(load, ONE, plan), Kept(load, ONE, plan), Full(load, ONE, plan, 2, spans, names)]
        told = [copy.deepcopy(verdict.told()) for verdict in verdicts]
        for thing in [load, plan, spans, names]:
            thing.clear()
        for verdict, ahead in zip(verdicts, told):
            self.assertEqual((verdict.load, verdict.plan), (self.LOAD, [(0, 0, "a")]))
            self.assertEqual(verdict.told(), ahead)
        self.assertEqual((verdicts[2].spans, verdicts[2].names), ([(0, 2)], ["a", "b"]))

    def test_told_lists_are_the_askers_own(self):
        for verdict in [settled(self.LOAD, ONE), settled(self.LOAD, TWO), Verdict(self.LOAD, ONE, [(0, 0, "a")])]:
            ahead = copy.deepcopy(verdict.told())
            self.assertIs(ahead.__class__, tuple)
            for thing in verdict.told():
                if isinstance(thing, list):
                    thing.append("more")
            self.assertEqual(verdict.told(), ahead)
            self.assertEqual(verdict.plan, ahead[1])

    def test_what_is_done_later_to_the_load_changes_nothing(self):
        load = list(self.LOAD)
        verdict = settled(load, ONE)
        ahead = copy.deepcopy(verdict.told())
        load.clear()
        self.assertEqual((verdict.load, verdict.told(), verdict.holds()), (self.LOAD, ahead, True))

    def test_settled_alike_they_tell_alike(self):
        chance = random.Random(55)
        for _ in range(20):
            load, calendar = small_load(chance, 5), small_calendar(chance)
            ahead = list(load)
            self.assertEqual(settled(load, calendar).told(), settled(list(load), calendar).told())
            self.assertEqual(load, ahead)


if __name__ == "__main__":
    unittest.main()
