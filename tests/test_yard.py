import collections
import copy
import random
import unittest

from dueyard.calendars import Calendar
from dueyard.errors import NoJob, NoName, NoNumber, Taken, TooMany
from dueyard.verdicts import Full, Kept, settled
from dueyard.yard import Yard
from samples import NO_WHOLE_NUMBERS, Refusing, does_all, is_paper, laid_later, small_calendar

ONE = Calendar([], 1)
TWO = Calendar([], 2)
MILLION = 10 ** 6


def told_by(yard):
    """All that a yard tells, in lists and dicts of the asker's own."""
    calendar = yard.calendar_now()
    return copy.deepcopy({
        "turn": yard.now_turn(), "calendar": (calendar.rows(), calendar.rest()), "plan": yard.plan_now(),
        "load": yard.load_now(), "log": yard.log_told(), "gave": yard.gave_ways(), "names": yard.all_names(),
        "states": {name: yard.state_of(name) for name in yard.all_names()},
    })


def with_state(states, name, word=None, last=None, left=None):
    old = states[name]
    states[name] = (word or old[0], old[1], old[2] if last is None else last, old[3], old[4],
                    old[5] if left is None else left)


class Watching(Refusing):
    """Each deed is done through these, which see that it does what points 80 to 87 say, and nothing else."""

    def check_yard(self, yard):
        """Points 80, 86 and 87, for a yard at any time."""
        told = told_by(yard)
        states = told["states"]
        self.assertEqual(list(states), told["names"])
        self.assertEqual(told["load"], [
            (name, max(first, told["turn"]), last, left, breadth)
            for name, (word, first, last, work, breadth, left) in states.items() if word == "standing"])
        self.assertTrue(does_all(told["load"], yard.calendar_now(), told["plan"]))
        self.assertEqual(told["log"], sorted(told["log"]))
        self.assertEqual(len({row[:2] for row in told["log"]}), len(told["log"]))
        self.assertTrue(all(0 <= row[0] < told["turn"] for row in told["log"]))
        for (turn, name), many in collections.Counter((row[0], row[2]) for row in told["log"]).items():
            self.assertLessEqual(many, states[name][4])
        for name, (word, first, last, work, breadth, left) in states.items():
            self.assertIn(word, ["standing", "finished", "withdrawn"])
            self.assertEqual(left == 0, word == "finished")
            turns = [row[0] for row in told["log"] if row[2] == name]
            self.assertEqual(len(turns), work - left)
            self.assertTrue(all(first <= turn <= last for turn in turns))

    def check_deed(self, yard, ahead, **changes):
        """All that the yard tells is as it was, but for these changes."""
        told = told_by(yard)
        told.pop("load")
        wanted = dict(ahead, **changes)
        wanted.pop("load")
        self.assertEqual(told, wanted)
        self.check_yard(yard)

    def ask(self, yard, name, first, last, work, breadth=1):
        ahead = told_by(yard)
        load = ahead["load"] + [(name, max(first, ahead["turn"]), last, work, breadth)]
        verdict = yard.ask(name, first, last, work, breadth)
        self.assertEqual((verdict.load, verdict.calendar), (load, yard.calendar_now()))
        self.assertTrue(verdict.holds())
        if verdict.kept():
            self.assertIs(verdict.__class__, Kept)
            states = dict(ahead["states"], **{name: ("standing", first, last, work, breadth, work)})
            self.check_deed(yard, ahead, names=ahead["names"] + [name], plan=verdict.plan, states=states)
        else:
            self.assertIs(verdict.__class__, Full)
            self.check_deed(yard, ahead)
        return verdict.kept()

    def withdraw(self, yard, name):
        ahead = told_by(yard)
        left = yard.withdraw(name)
        self.assertEqual(left, ahead["states"][name][5])
        with_state(ahead["states"], name, word="withdrawn")
        self.check_deed(yard, ahead, plan=[row for row in ahead["plan"] if row[2] != name])
        return left

    def pass_turns(self, yard, many):
        ahead = told_by(yard)
        calendar = yard.calendar_now()
        turn = ahead["turn"] + many
        worked = yard.pass_turns(many)
        self.assertEqual(worked, [row for row in ahead["plan"] if row[0] < turn])
        self.assertTrue(all(0 <= row[1] < calendar.at(row[0]) for row in worked))
        for name, rows in collections.Counter(row[2] for row in worked).items():
            left = ahead["states"][name][5] - rows
            with_state(ahead["states"], name, left=left, word="finished" if left == 0 else "standing")
        self.check_deed(yard, ahead, turn=turn, log=ahead["log"] + worked,
                        plan=[row for row in ahead["plan"] if row[0] >= turn])
        return worked

    def check_calendar(self, old, new, first, last, by):
        """The machines of all turns from first to last have changed by so many, but nowhere below 0."""
        self.assertEqual(new.rest(), old.rest())
        stops = {first, last + 1, old.end(), new.end(), *old.changes(0, old.end()), *new.changes(0, new.end())}
        for turn in sorted({stop + step for stop in stops for step in [-1, 0, 1]} | set(range(30))):
            change = by if first <= turn <= last else 0
            if turn >= 0:
                self.assertEqual(new.at(turn), max(0, old.at(turn) + change), turn)

    def lose(self, yard, first, last, many):
        ahead = told_by(yard)
        old, load, turn = yard.calendar_now(), ahead["load"], ahead["turn"]
        told = yard.lose(first, last, many)
        self.assertIs(told.__class__, tuple)
        by, gave, paper, more = told
        calendar, plan = yard.calendar_now(), yard.plan_now()
        self.check_calendar(old, calendar, max(first, turn), last, -many)
        self.assertTrue(does_all(laid_later(load, by), calendar, plan))
        ends = {job[0]: max(row[0] for row in plan if row[2] == job[0]) for job in load}
        self.assertEqual(gave, [(job[0], job[2], ends[job[0]]) for job in load if ends[job[0]] > job[2]])
        self.assertTrue(all(0 < new - last_turn <= by for name, last_turn, new in gave))
        if by == 0:
            self.assertEqual((gave, paper, more), ([], None, 0))
            self.assertTrue(settled(load, calendar).kept())
        else:
            self.assertTrue(is_paper(paper, laid_later(load, by - 1), calendar))
            self.assertGreater(len(gave), 0)
            self.assertTrue(settled(load, calendar.widened(more)).kept())
            self.assertFalse(settled(load, calendar.widened(more - 1)).kept())
        for name, last_turn, new in gave:
            with_state(ahead["states"], name, last=new)
        self.check_deed(yard, ahead, calendar=(calendar.rows(), calendar.rest()), plan=plan,
                        gave=ahead["gave"] + [(turn, *row) for row in gave])
        return by, gave, paper, more

    def find(self, yard, first, last, many):
        ahead = told_by(yard)
        old = yard.calendar_now()
        self.assertIsNone(yard.find(first, last, many))
        calendar = yard.calendar_now()
        self.check_calendar(old, calendar, max(first, ahead["turn"]), last, many)
        self.check_deed(yard, ahead, calendar=(calendar.rows(), calendar.rest()))

    def yard_with_each_kind(self):
        yard = Yard(ONE)
        self.ask(yard, "done", 0, 0, 1)
        self.pass_turns(yard, 1)
        self.ask(yard, "gone", 1, 9, 1)
        self.withdraw(yard, "gone")
        self.ask(yard, "here", 1, 9, 1)
        return yard

    def check_refused_by(self, yard, error, deed, *handed_in):
        """What is refused changes nothing (5)."""
        ahead = told_by(yard)
        refusal = self.check_refused(error, deed, *handed_in)
        self.assertEqual(told_by(yard), ahead)
        return refusal


class NewYards(Watching):
    def test_a_new_yard(self):
        for calendar in [ONE, Calendar([(3, 0)], 2), ONE.fewer(3, MILLION, 1)]:
            yard = Yard(calendar)
            self.check_yard(yard)
            self.assertEqual(told_by(yard), {
                "turn": 0, "calendar": (calendar.rows(), calendar.rest()), "plan": [], "load": [], "log": [],
                "gave": [], "names": [], "states": {}})


class Asking(Watching):
    def test_kept_and_full(self):
        yard = Yard(ONE)
        self.assertTrue(self.ask(yard, "a", 0, 4, 3))
        self.assertFalse(self.ask(yard, "b", 0, 4, 3))
        self.assertTrue(self.ask(yard, "b", 0, 4, 2))
        self.assertFalse(self.ask(yard, "c", 2, 4, 1))
        self.assertTrue(self.ask(yard, "c", 2, 5, 1))
        self.assertEqual(yard.all_names(), ["a", "b", "c"])
        self.assertEqual(yard.load_now(), [("a", 0, 4, 3, 1), ("b", 0, 4, 2, 1), ("c", 2, 5, 1, 1)])

    def test_the_others_are_laid_anew(self):
        yard = Yard(ONE)
        self.assertTrue(self.ask(yard, "a", 0, 9, 5))
        self.assertTrue(self.ask(yard, "b", 0, 4, 5))
        self.assertFalse(self.ask(yard, "c", 0, 9, 1))

    def test_the_breadth(self):
        yard = Yard(TWO)
        self.assertFalse(self.ask(yard, "a", 0, 2, 4))
        self.assertIs(yard.ask("a", 0, 2, 4).kept(), False)
        self.assertTrue(self.ask(yard, "a", 0, 2, 4, 2))
        self.assertIs(yard.ask("b", 5, 5, 1).kept(), True)
        self.assertEqual(yard.state_of("b"), ("standing", 5, 5, 1, 1, 1))

    def test_a_first_ahead_of_the_turn(self):
        yard = Yard(ONE)
        self.pass_turns(yard, 5)
        self.assertFalse(self.ask(yard, "a", 0, 7, 4))
        self.assertTrue(self.ask(yard, "a", 0, 7, 3))
        self.assertEqual(yard.load_now(), [("a", 5, 7, 3, 1)])
        self.assertEqual(yard.state_of("a"), ("standing", 0, 7, 3, 1, 3))
        self.assertTrue(self.ask(yard, "b", 8, 9, 1))
        self.assertEqual(yard.load_now()[1:], [("b", 8, 9, 1, 1)])

    def test_a_window_that_has_passed(self):
        yard = Yard(ONE)
        self.pass_turns(yard, 5)
        for first, last in [(0, 4), (4, 4), (6, 5), (9, 3)]:
            self.assertFalse(self.ask(yard, "a", first, last, 1), (first, last))
        self.assertTrue(self.ask(yard, "a", 5, 5, 1))

    def test_the_bounds(self):
        yard = Yard(Calendar([], 16))
        self.assertTrue(self.ask(yard, "a", 0, MILLION, 60, 16))
        self.assertTrue(self.ask(yard, "abcdefg8", MILLION, MILLION, 1, 1))
        self.assertFalse(self.ask(yard, "b", MILLION, 0, 1, 1))

    def test_wrong_numbers(self):
        yard = Yard(ONE)
        self.ask(yard, "a", 0, 9, 2)
        for numbers in [(-1, 9, 1, 1), (MILLION + 1, 9, 1, 1), (0, -1, 1, 1), (0, MILLION + 1, 1, 1), (0, 9, 0, 1),
                        (0, 9, 61, 1), (0, 9, -1, 1), (0, 9, 1, 0), (0, 9, 1, 17), (0, 9, 1, -1)]:
            self.check_refused_by(yard, NoNumber, yard.ask, "b", *numbers)
        for thing in NO_WHOLE_NUMBERS:
            for place in range(4):
                numbers = [0, 9, 1, 1]
                numbers[place] = thing
                self.check_refused_by(yard, NoNumber, yard.ask, "b", *numbers)

    def test_wrong_names(self):
        yard = Yard(ONE)
        self.ask(yard, "a", 0, 9, 2)
        for name in ["", "A", "1", "1a", "a b", "abcdefghi", "a-", " ", True, None, 7, ["a"], ("a",)]:
            self.check_refused_by(yard, NoName, yard.ask, name, 0, 9, 1)

    def test_taken(self):
        yard = self.yard_with_each_kind()
        for name in ["done", "gone", "here"]:
            self.assertEqual(self.check_refused_by(yard, Taken, yard.ask, name, 1, 9, 1).name, name)

    def test_twelve_are_standing(self):
        yard = Yard(Calendar([], 16))
        for place in range(12):
            self.assertTrue(self.ask(yard, f"j{place}", place, 50, 1))
        self.check_refused_by(yard, TooMany, yard.ask, "more", 0, 50, 1)
        self.pass_turns(yard, 1)
        self.assertTrue(self.ask(yard, "more", 0, 50, 1))
        self.check_refused_by(yard, TooMany, yard.ask, "again", 0, 50, 1)
        self.withdraw(yard, "j7")
        self.assertTrue(self.ask(yard, "again", 0, 50, 1))

    def test_the_first_refusal_that_is_due(self):
        yard = Yard(Calendar([], 16))
        for place in range(12):
            self.ask(yard, f"j{place}", 0, 50, 9)
        self.check_refused_by(yard, NoName, yard.ask, "J0", -1, 50, 0)
        self.check_refused_by(yard, Taken, yard.ask, "j0", -1, 50, 0)
        self.check_refused_by(yard, NoNumber, yard.ask, "more", 0, 50, 0)
        self.check_refused_by(yard, NoNumber, yard.ask, "more", -1, 50, 1)
        self.check_refused_by(yard, NoNumber, yard.ask, "more", 0, 50, 1, 0)
        self.check_refused_by(yard, NoNumber, yard.ask, "more", 0, 50, 1, 17)
        self.check_refused_by(yard, TooMany, yard.ask, "more", 0, 50, 60)
        self.check_refused_by(yard, TooMany, yard.ask, "more", 9, 5, 60)

    def test_a_full_one_leaves_the_name_free(self):
        yard = Yard(ONE)
        self.assertFalse(self.ask(yard, "a", 0, 3, 5))
        self.check_refused_by(yard, NoJob, yard.state_of, "a")
        self.check_refused_by(yard, NoJob, yard.withdraw, "a")
        self.assertTrue(self.ask(yard, "a", 0, 4, 5))


class Withdrawing(Watching):
    def test_what_was_left(self):
        yard = Yard(TWO)
        self.ask(yard, "a", 0, 9, 6, 2)
        self.ask(yard, "b", 0, 2, 3)
        self.ask(yard, "c", 4, 9, 2)
        self.pass_turns(yard, 3)
        done = 6 - yard.state_of("a")[5]
        self.assertEqual(self.withdraw(yard, "a"), 6 - done)
        self.assertEqual(yard.state_of("a"), ("withdrawn", 0, 9, 6, 2, 6 - done))
        self.assertEqual([job[0] for job in yard.load_now()], ["c"])
        self.assertEqual(self.withdraw(yard, "c"), 2)
        self.assertEqual((yard.load_now(), yard.plan_now()), ([], []))

    def test_its_turns_are_free(self):
        yard = Yard(ONE)
        self.ask(yard, "a", 0, 4, 5)
        self.assertFalse(self.ask(yard, "b", 0, 4, 5))
        self.assertEqual(self.withdraw(yard, "a"), 5)
        self.assertTrue(self.ask(yard, "b", 0, 4, 5))

    def test_no_such_job_is_standing(self):
        yard = self.yard_with_each_kind()
        for name in ["done", "gone", "none", "", "A b"]:
            self.assertEqual(self.check_refused_by(yard, NoJob, yard.withdraw, name).name, name)


class Passing(Watching):
    def test_turns_pass(self):
        yard = Yard(ONE)
        self.ask(yard, "a", 2, 4, 3)
        self.ask(yard, "b", 0, 9, 2)
        self.assertEqual(self.pass_turns(yard, 0), [])
        self.assertEqual(self.pass_turns(yard, 2), [(0, 0, "b"), (1, 0, "b")])
        self.assertEqual(yard.state_of("b"), ("finished", 0, 9, 2, 1, 0))
        self.assertEqual(self.pass_turns(yard, 1), [(2, 0, "a")])
        self.assertEqual(yard.state_of("a"), ("standing", 2, 4, 3, 1, 2))
        self.assertEqual(yard.load_now(), [("a", 3, 4, 2, 1)])
        self.assertEqual(self.pass_turns(yard, 9), [(3, 0, "a"), (4, 0, "a")])
        self.assertEqual((yard.now_turn(), yard.load_now(), yard.plan_now()), (12, [], []))
        self.assertEqual(len(yard.log_told()), 5)

    def test_a_million_turns(self):
        yard = Yard(ONE)
        self.ask(yard, "a", MILLION - 1, MILLION, 2)
        self.assertEqual(self.pass_turns(yard, MILLION), [(MILLION - 1, 0, "a")])
        self.assertEqual(self.pass_turns(yard, MILLION), [(MILLION, 0, "a")])
        self.assertEqual(yard.now_turn(), 2 * MILLION)
        self.assertFalse(self.ask(yard, "b", 0, MILLION, 1))

    def test_many_times_a_million_turns(self):
        yard = Yard(Calendar([(5, 1)], 2))
        for _ in range(200):
            yard.pass_turns(MILLION)
        self.assertEqual(yard.now_turn(), 200 * MILLION)
        self.assertEqual(yard.ask("a", 0, MILLION, 7).lack, 7)

    def test_several_rows_of_one_turn(self):
        yard = Yard(Calendar([], 3))
        self.ask(yard, "a", 0, 0, 2, 2)
        self.ask(yard, "b", 0, 0, 1)
        worked = self.pass_turns(yard, 1)
        self.assertEqual([row[:2] for row in worked], [(0, 0), (0, 1), (0, 2)])
        self.assertEqual([yard.state_of(name)[0] for name in ["a", "b"]], ["finished", "finished"])

    def test_wrong_numbers(self):
        yard = Yard(ONE)
        self.ask(yard, "a", 0, 9, 2)
        for many in [-1, MILLION + 1, -MILLION] + NO_WHOLE_NUMBERS:
            self.check_refused_by(yard, NoNumber, yard.pass_turns, many)


class LosingAndFinding(Watching):
    def test_nothing_gives_way(self):
        yard = Yard(TWO)
        self.assertEqual(self.lose(yard, 0, 5, 1), (0, [], None, 0))
        self.ask(yard, "a", 0, 9, 5)
        for first, last, many in [(0, 4, 2), (0, 9, 0), (5, 4, 16), (20, 30, 16), (6, 9, 1)]:
            self.lose(yard, first, last, many)
            self.assertEqual((yard.gave_ways(), yard.state_of("a")[2]), ([], 9))

    def test_who_gives_way_and_who_does_not(self):
        yard = Yard(ONE)
        self.ask(yard, "a", 0, 1, 2)
        self.ask(yard, "b", 20, 29, 3)
        by, gave, paper, more = self.lose(yard, 0, 2, 1)
        self.assertEqual((by, gave, more), (3, [("a", 1, 4)], 1))
        self.assertEqual(paper[1], ["a"])
        self.assertEqual(yard.gave_ways(), [(0, "a", 1, 4)])
        self.assertEqual(yard.load_now(), [("a", 0, 4, 2, 1), ("b", 20, 29, 3, 1)])

    def test_several_give_way_in_the_order_of_the_load(self):
        yard = Yard(TWO)
        for name in ["z", "a", "m"]:
            self.assertTrue(self.ask(yard, name, 0, 3, 2))
        self.pass_turns(yard, 1)
        by, gave, paper, more = self.lose(yard, 0, 9, 16)
        self.assertEqual([row[0] for row in gave], [job[0] for job in yard.load_now()])
        self.assertEqual(yard.gave_ways(), [(1, *row) for row in gave])
        self.pass_turns(yard, 2)
        again = self.lose(yard, 10, 12, 1)[1]
        self.assertGreater(len(again), 0)
        self.assertEqual(yard.gave_ways(), [(1, *row) for row in gave] + [(3, *row) for row in again])

    def test_more_machines_than_there_are(self):
        yard = Yard(Calendar([(4, 2), (4, 7)], 1))
        self.lose(yard, 0, 9, 5)
        self.assertEqual(yard.calendar_now().rows(), [(4, 0), (4, 2), (2, 0)])
        self.lose(yard, 0, MILLION, 16)
        self.assertEqual(yard.calendar_now().rows(), [(MILLION + 1, 0)])

    def test_turns_that_have_passed_stay(self):
        yard = Yard(TWO)
        self.ask(yard, "a", 0, 9, 4)
        self.pass_turns(yard, 3)
        self.lose(yard, 0, 2, 1)
        self.assertEqual(yard.calendar_now().rows(), [])
        self.lose(yard, 0, 3, 1)
        self.assertEqual(yard.calendar_now().rows(), [(3, 2), (1, 1)])
        self.find(yard, 0, 2, 9)
        self.assertEqual(yard.calendar_now().rows(), [(3, 2), (1, 1)])
        self.find(yard, 2, 4, 9)
        self.assertEqual(yard.calendar_now().rows(), [(3, 2), (1, 10), (1, 11)])

    def test_the_turn_itself_is_lost_and_found(self):
        yard = Yard(ONE)
        self.pass_turns(yard, 5)
        self.ask(yard, "a", 0, 5, 1)
        self.assertEqual(self.lose(yard, 5, 5, 1)[:2], (1, [("a", 5, 6)]))
        self.find(yard, 5, 5, 1)
        self.assertTrue(self.ask(yard, "b", 0, 5, 1))

    def test_found_machines_are_used(self):
        yard = Yard(ONE)
        self.ask(yard, "a", 0, 4, 5)
        self.assertFalse(self.ask(yard, "b", 0, 4, 5))
        self.find(yard, 4, 0, 16)
        self.assertFalse(self.ask(yard, "b", 0, 4, 5))
        self.find(yard, 0, 4, 16)
        self.assertTrue(self.ask(yard, "b", 0, 4, 5))
        self.find(yard, 0, MILLION, 0)
        self.find(yard, 3, MILLION, 16)
        self.assertEqual(yard.calendar_now().at(MILLION), 17)

    def test_more(self):
        yard = Yard(Calendar([], 5))
        self.ask(yard, "a", 0, 1, 10, 5)
        self.assertEqual(self.lose(yard, 0, 9, 3)[::3], (3, 3))
        yard = Yard(Calendar([], 5))
        self.ask(yard, "a", 0, 1, 9, 5)
        self.assertEqual(self.lose(yard, 0, 0, 3)[::3], (1, 2))

    def test_the_promise_as_it_stands_gives_way_again(self):
        yard = Yard(ONE)
        self.ask(yard, "a", 0, 1, 2)
        self.assertEqual(self.lose(yard, 0, 1, 1)[1], [("a", 1, 3)])
        self.assertEqual(self.lose(yard, 2, 2, 1)[1], [("a", 3, 4)])
        self.assertEqual(yard.gave_ways(), [(0, "a", 1, 3), (0, "a", 3, 4)])
        self.assertEqual(yard.state_of("a"), ("standing", 0, 4, 2, 1, 2))
        self.assertEqual(self.pass_turns(yard, 9), [(3, 0, "a"), (4, 0, "a")])

    def test_without_machines_for_a_million_turns(self):
        yard = Yard(ONE)
        self.ask(yard, "a", 0, 0, 1)
        self.ask(yard, "b", 0, MILLION, 2)
        by, gave, paper, more = self.lose(yard, 0, MILLION, 1)
        self.assertEqual((by, more), (MILLION + 1, 1))
        self.assertEqual(gave[0], ("a", 0, MILLION + 1))

    def test_wrong_numbers(self):
        yard = Yard(ONE)
        self.ask(yard, "a", 0, 9, 2)
        for deed in [yard.lose, yard.find]:
            for numbers in [(-1, 9, 1), (MILLION + 1, 9, 1), (0, -1, 1), (0, MILLION + 1, 1), (0, 9, -1), (0, 9, 17)]:
                self.check_refused_by(yard, NoNumber, deed, *numbers)
            for thing in NO_WHOLE_NUMBERS:
                for place in range(3):
                    numbers = [0, 9, 1]
                    numbers[place] = thing
                    self.check_refused_by(yard, NoNumber, deed, *numbers)
        for numbers in [(0, 0, 0), (MILLION, MILLION, 16), (MILLION, 0, 16)]:
            self.lose(yard, *numbers)
            self.find(yard, *numbers)


class Telling(Watching):
    def worn(self):
        yard = Yard(Calendar([(3, 2)], 1))
        yard.ask("a", 0, 3, 3)
        yard.ask("b", 0, 9, 4, 2)
        yard.ask("c", 5, 30, 2)
        yard.pass_turns(2)
        yard.lose(0, 9, 1)
        yard.withdraw("c")
        return yard

    def test_state_of(self):
        yard = self.worn()
        self.assertEqual(yard.state_of("c"), ("withdrawn", 5, 30, 2, 1, 2))
        self.assertIs(yard.state_of("a").__class__, tuple)
        for name in ["none", "", "A"]:
            self.assertEqual(self.check_refused_by(yard, NoJob, yard.state_of, name).name, name)

    def test_the_lists_told_are_new_ones(self):
        yard = self.worn()
        yard.ask("d", 5, 40, 2)
        ahead = told_by(yard)
        self.assertTrue(all(ahead.values()))
        for tell in [yard.plan_now, yard.load_now, yard.log_told, yard.all_names, yard.gave_ways]:
            tell().append("more")
            tell().reverse()
            tell().clear()
        self.assertEqual(told_by(yard), ahead)

    def test_the_lists_told_by_deeds_are_new_ones(self):
        yard = Yard(ONE)
        verdict = yard.ask("a", 0, 3, 3)
        ahead = told_by(yard)
        verdict.told()[1].clear()
        self.assertEqual(told_by(yard), ahead)
        by, gave, (spans, names), more = yard.lose(0, 1, 1)
        ahead = told_by(yard)
        for thing in [gave, spans, names]:
            thing.clear()
        self.assertEqual(told_by(yard), ahead)
        worked = yard.pass_turns(9)
        ahead = told_by(yard)
        self.assertEqual(len(ahead["log"]), 3)
        worked.clear()
        self.assertEqual(told_by(yard), ahead)

    def test_a_verdict_that_was_told_stays(self):
        yard = Yard(ONE)
        verdict = yard.ask("a", 0, 3, 3)
        ahead = copy.deepcopy(verdict.told())
        yard.pass_turns(2)
        yard.withdraw("a")
        self.assertEqual(verdict.told(), ahead)
        self.assertTrue(verdict.holds())

    def test_a_calendar_handed_in_stays(self):
        calendar = Calendar([(3, 2)], 1)
        one, other = Yard(calendar), Yard(calendar)
        one.lose(0, 9, 1)
        one.find(4, 5, 7)
        self.assertEqual((calendar.rows(), calendar.rest()), ([(3, 2)], 1))
        self.assertEqual(other.calendar_now().rows(), [(3, 2)])
        self.assertEqual(told_by(other), told_by(Yard(calendar)))

    def test_a_calendar_told_stays(self):
        yard = Yard(Calendar([(3, 2)], 1))
        told = yard.calendar_now()
        yard.lose(0, 9, 1)
        self.assertEqual((told.rows(), told.rest()), ([(3, 2)], 1))

    def test_two_yards_that_are_told_the_same_tell_the_same(self):
        self.assertEqual(told_by(self.worn()), told_by(self.worn()))


class LongRowsOfDeeds(Watching):
    """Points 7 and 87."""

    def random_ask(self, chance, yard):
        first = max(0, yard.now_turn() + chance.randint(-3, 12))
        last = first + chance.randint(-1, 12)
        name = f"n{len(yard.all_names())}" if chance.random() < 0.9 else chance.choice(["a", "n0", "n1", "A", ""])
        work, breadth = chance.choice([1, 3, 7, 12]), chance.randint(1, 3)
        error = self.due(yard, name, last)
        if error:
            self.check_refused_by(yard, error, yard.ask, name, first, last, work, breadth)
        else:
            self.ask(yard, name, first, last, work, breadth)

    def due(self, yard, name, last):
        """The class of the refusal that is due to a random job, None where none is."""
        if name in ["A", ""]:
            return NoName
        if name in yard.all_names():
            return Taken
        if last < 0:
            return NoNumber
        return TooMany if len(yard.load_now()) == 12 else None

    def deeds(self, chance, yard, many, changes):
        """Random deeds, so many of them losses and finds."""
        kinds = ["ask"] * 5 + ["pass"] * 3 + ["withdraw"]
        row = [chance.choice(kinds) for _ in range(many - len(changes))] + changes
        chance.shuffle(row)
        for kind in row:
            if kind == "ask":
                self.random_ask(chance, yard)
            elif kind == "pass":
                self.pass_turns(yard, chance.choice([0, 1, 1, 2, 3]))
            elif kind == "withdraw":
                standing = [job[0] for job in yard.load_now()]
                if standing:
                    self.withdraw(yard, chance.choice(standing))
            else:
                first = max(0, yard.now_turn() + chance.randint(-3, 6))
                deed = self.lose if kind == "lose" else self.find
                deed(yard, first, max(0, first + chance.randint(-1, 8)), chance.choice([0, 1, 1, 2, 16]))

    def finish(self, yard):
        while yard.load_now():
            self.pass_turns(yard, 50)
        for name in yard.all_names():
            word, first, last, work, breadth, left = yard.state_of(name)
            self.assertIn(word, ["finished", "withdrawn"])
            turns = [row[0] for row in yard.log_told() if row[2] == name]
            self.assertEqual(len(turns), work - left)
            self.assertTrue(all(first <= turn <= last for turn in turns))

    def test_any_deeds(self):
        gave = 0
        for seed in range(25):
            chance = random.Random(8700 + seed)
            yard = Yard(small_calendar(chance, chance.choice([1, 2, 4])))
            self.deeds(chance, yard, 80, [chance.choice(["lose", "lose", "find"]) for _ in range(14)])
            gave += len(yard.gave_ways())
            self.finish(yard)
        self.assertGreater(gave, 20)

    def test_while_no_machine_is_lost_nothing_gives_way(self):
        promised = 0
        for seed in range(15):
            chance = random.Random(8800 + seed)
            yard = Yard(small_calendar(chance, chance.choice([1, 2, 4])))
            self.deeds(chance, yard, 80, ["find"] * 4)
            self.finish(yard)
            self.assertEqual(yard.gave_ways(), [])
            promised += len(yard.all_names())
        self.assertGreater(promised, 100)

    def test_three_hundred_deeds(self):
        chance = random.Random(8900)
        yard = Yard(Calendar([(9, 2), (5, 0), (40, 3)], 2))
        self.deeds(chance, yard, 300, ["lose", "find"] * 10)
        self.finish(yard)

    def test_a_job_is_promised_just_where_it_can_be_kept(self):
        # Whether it can is known without settling: one machine, and windows that begin at once.
        chance = random.Random(8910)
        for _ in range(60):
            yard = Yard(ONE)
            jobs = []
            for place in range(8):
                last, work = chance.randint(0, 15), chance.randint(1, 5)
                wanted = sorted(jobs + [(last, work)])
                sums = [sum(some[1] for some in wanted[:many + 1]) for many in range(len(wanted))]
                fits = all(done <= end + 1 for done, (end, amount) in zip(sums, wanted))
                self.assertEqual(self.ask(yard, f"j{place}", 0, last, work), fits)
                jobs += [(last, work)] if fits else []


if __name__ == "__main__":
    unittest.main()
