import itertools
import unittest

from dueyard.calendars import Calendar, calendar_of
from dueyard.errors import NoCalendar
from dueyard.spans import tidy

FAR = 10 ** 10
NO_NUMBERS = [True, False, None, "1", "", 1.0, [1], (1,), {}, b"1", 1j, object]
NO_LISTS = [None, True, 0, 7, "", "12", (), ((1, 2),), {}, {1: 2}, {(1, 2)}, range(3), iter([]), object()]


def machines_of(rows, rest, turns):
    """The machines of the turns from 0 on, written out one by one."""
    told = [machines for many, machines in rows for _ in range(many)]
    return (told + [rest] * turns)[:turns]


def told_by(calendar, turns):
    return [calendar.at(turn) for turn in range(turns)]


def small_calendars():
    pairs = [(many, machines) for many in [1, 3] for machines in [0, 1, 2]]
    for size in range(4):
        for rows in itertools.product(pairs, repeat=size):
            yield list(rows), 2


class Rows(unittest.TestCase):
    def test_rows_are_told_in_the_kept_form(self):
        for rows, rest, kept in [
            ([], 1, []),
            ([], 16, []),
            ([(3, 2)], 1, [(3, 2)]),
            ([(3, 2)], 2, []),
            ([(3, 0)], 2, [(3, 0)]),
            ([(3, 2), (4, 2)], 1, [(7, 2)]),
            ([(3, 2), (4, 2)], 2, []),
            ([(3, 2), (4, 1), (5, 2)], 1, [(3, 2), (4, 1), (5, 2)]),
            ([(3, 2), (4, 1), (5, 2)], 2, [(3, 2), (4, 1)]),
            ([(1, 1), (3, 2), (4, 1), (1, 1)], 1, [(1, 1), (3, 2)]),
            ([(1, 5), (2, 5), (3, 5), (4, 6), (5, 6), (6, 0)], 6, [(6, 5), (9, 6), (6, 0)]),
            ([(10 ** 6, 16)], 1, [(10 ** 6, 16)]),
            ([(10 ** 6, 16), (10 ** 6, 16)], 1, [(2 * 10 ** 6, 16)]),
        ]:
            with self.subTest(rows=rows, rest=rest):
                calendar = Calendar(rows, rest)
                self.assertEqual(calendar.rows(), kept)
                self.assertEqual(calendar.rest(), rest)

    def test_16_rows_are_taken_and_17_refused(self):
        rows = [(at + 1, at % 2) for at in range(16)]
        self.assertEqual(Calendar(rows, 5).rows(), rows)
        self.assertEqual(Calendar([(10 ** 6, 3)] * 16, 5).rows(), [(16 * 10 ** 6, 3)])
        for wrong in [rows + [(1, 4)], [(1, 3)] * 17, [(1, 5)] * 17]:
            with self.assertRaises(NoCalendar):
                Calendar(wrong, 5)

    def test_each_bound_and_one_beyond_it(self):
        for row in [(1, 0), (1, 16), (10 ** 6, 0), (10 ** 6, 16)]:
            self.assertEqual(Calendar([row], 7).rows(), [row])
        for row in [(0, 3), (-1, 3), (10 ** 6 + 1, 3), (10 ** 30, 3), (1, -1), (1, 17), (1, 10 ** 30)]:
            with self.subTest(row):
                with self.assertRaises(NoCalendar):
                    Calendar([row], 7)
        for rest in [1, 2, 15, 16]:
            self.assertEqual(Calendar([], rest).rest(), rest)
        for rest in [0, 17, -1, 10 ** 30] + NO_NUMBERS:
            for rows in [[], [(1, 3)], [(1, 17)]]:
                with self.subTest(rest=rest, rows=rows):
                    with self.assertRaises(NoCalendar):
                        Calendar(rows, rest)

    def test_what_is_no_list_of_rows_is_refused(self):
        for thing in NO_LISTS:
            with self.subTest(thing):
                with self.assertRaises(NoCalendar):
                    Calendar(thing, 3)

    def test_rows_that_are_no_rows_are_refused(self):
        wrong = [(), (1,), (1, 2, 3), [1, 2], [], "12", "", 1, None, True, {1: 2, 3: 4}]
        wrong += [(thing, 5) for thing in NO_NUMBERS] + [(1, thing) for thing in NO_NUMBERS]
        for row in wrong:
            for rows in [[row], [(1, 2), row], [row, (1, 2)]]:
                with self.subTest(rows):
                    with self.assertRaises(NoCalendar):
                        Calendar(rows, 3)

    def test_what_is_handed_in_stays_and_may_be_changed_behind(self):
        rows = [(3, 2), (4, 2), (1, 5)]
        calendar = Calendar(rows, 5)
        self.assertEqual(rows, [(3, 2), (4, 2), (1, 5)])
        rows[0] = (9, 9)
        rows.append((1, 1))
        self.assertEqual(calendar.rows(), [(7, 2)])
        self.assertEqual(told_by(calendar, 9), [2] * 7 + [5] * 2)

    def test_rows_that_are_kept_already_may_be_changed_behind(self):
        rows = [(3, 2), (4, 1)]
        calendar = Calendar(rows, 5)
        rows.clear()
        self.assertEqual(calendar.rows(), [(3, 2), (4, 1)])

    def test_what_is_told_is_the_askers_own(self):
        calendar = Calendar([(3, 2), (4, 1)], 5)
        rows = calendar.rows()
        rows.clear()
        self.assertEqual(calendar.rows(), [(3, 2), (4, 1)])
        self.assertEqual(calendar.end(), 7)
        changes = calendar.changes(0, 9)
        changes.append(8)
        self.assertEqual(calendar.changes(0, 9), [3, 7])


class Asked(unittest.TestCase):
    def test_at_each_change(self):
        calendar = Calendar([(3, 2), (4, 0), (1, 16)], 5)
        for turn, machines in [
            (0, 2), (2, 2), (3, 0), (4, 0), (6, 0), (7, 16), (8, 5), (9, 5), (FAR, 5), (10 ** 30, 5),
        ]:
            self.assertEqual(calendar.at(turn), machines, turn)
        self.assertEqual(Calendar([], 4).at(0), 4)
        self.assertEqual(Calendar([], 4).at(10 ** 30), 4)

    def test_end(self):
        self.assertEqual(Calendar([], 4).end(), 0)
        self.assertEqual(Calendar([(9, 4)], 4).end(), 0)
        self.assertEqual(Calendar([(3, 2), (4, 0), (1, 16)], 5).end(), 8)
        self.assertEqual(Calendar([(3, 2), (4, 0), (1, 5)], 5).end(), 7)
        self.assertEqual(Calendar([(10 ** 6, at % 2) for at in range(16)], 5).end(), 16 * 10 ** 6)

    def test_over(self):
        calendar = Calendar([(3, 2), (4, 0), (1, 16)], 5)
        for first, last, machines in [
            (0, 0, 2), (0, 2, 6), (0, 3, 6), (2, 3, 2), (3, 6, 0), (6, 7, 16), (7, 7, 16), (7, 8, 21),
            (8, 8, 5), (0, 8, 27), (0, 9, 32), (1, 9, 30), (9, 9, 5), (0, FAR, 22 + 5 * (FAR - 7)),
            (FAR, 10 ** 30, 5 * (10 ** 30 - FAR + 1)), (10 ** 6, 10 ** 6, 5),
            (1, 0, 0), (3, 2, 0), (8, 7, 0), (9, 0, 0), (9, 8, 0), (FAR, 3, 0), (20, 10, 0),
        ]:
            with self.subTest(first=first, last=last):
                self.assertEqual(calendar.over(first, last), machines)

    def test_over_spans(self):
        calendar = Calendar([(3, 2), (4, 0), (1, 16)], 5)
        for spans, machines in [
            ([], 0), ([(0, 0)], 2), ([(0, 9)], 32), ([(0, 1), (3, 6)], 4), ([(2, 3), (6, 7), (9, 9)], 23),
            ([(FAR - 1, FAR)], 10), ([(0, FAR)], 22 + 5 * (FAR - 7)),
        ]:
            handed = list(spans)
            self.assertEqual(calendar.over_spans(handed), machines, spans)
            self.assertEqual(handed, spans)

    def test_changes(self):
        calendar = Calendar([(3, 2), (4, 0), (1, 16)], 5)
        for first, last, turns in [
            (0, 0, []), (0, 2, []), (0, 3, [3]), (2, 3, [3]), (3, 3, []), (3, 6, []), (3, 7, [7]),
            (2, 7, [3, 7]), (6, 8, [7, 8]), (7, 8, [8]), (8, 9, []), (0, FAR, [3, 7, 8]),
            (2, FAR, [3, 7, 8]), (3, FAR, [7, 8]), (8, 10 ** 30, []), (3, 2, []), (8, 0, []), (7, 3, []),
        ]:
            with self.subTest(first=first, last=last):
                self.assertEqual(calendar.changes(first, last), turns)
        self.assertEqual(Calendar([], 3).changes(0, FAR), [])
        self.assertEqual(Calendar([(2, 4), (2, 4), (2, 3)], 3).changes(0, FAR), [4])

    def test_all_small_calendars(self):
        for rows, rest in small_calendars():
            calendar = Calendar(rows, rest)
            told = machines_of(rows, rest, 14)
            self.assertEqual(told_by(calendar, 14), told)
            unlike = [turn for turn in range(14) if told[turn] != rest]
            self.assertEqual(calendar.end(), max(unlike, default=-1) + 1)
            for first in range(13):
                for last in range(13):
                    self.assertEqual(calendar.over(first, last), sum(told[first:last + 1]))
                    turns = [t for t in range(first + 1, last + 1) if told[t] != told[t - 1]]
                    self.assertEqual(calendar.changes(first, last), turns)
            spans = [(0, 0), (2, 4), (7, 11)]
            wanted = told[0] + sum(told[2:5]) + sum(told[7:12])
            self.assertEqual(calendar.over_spans(spans), wanted)

    def test_two_made_alike_tell_alike(self):
        one = Calendar([(3, 2), (4, 2)], 5)
        other = Calendar([(7, 2)], 5)
        one.over(0, 9)
        one.fewer(0, 9, 1)
        for calendar in [one, other]:
            self.assertEqual((calendar.rows(), calendar.rest(), calendar.end()), ([(7, 2)], 5, 7))


class ToldByOthers(unittest.TestCase):
    def check(self, calendar, rows, rest):
        self.assertIsInstance(calendar, Calendar)
        self.assertEqual(calendar.rows(), rows)
        self.assertEqual(calendar.rest(), rest)

    def test_fewer(self):
        calendar = Calendar([(3, 2), (4, 0), (1, 16)], 5)
        for first, last, many, rows in [
            (0, 0, 1, [(1, 1), (2, 2), (4, 0), (1, 16)]),
            (0, 2, 1, [(3, 1), (4, 0), (1, 16)]),
            (0, 2, 2, [(7, 0), (1, 16)]),
            (0, 2, 99, [(7, 0), (1, 16)]),
            (1, 1, 1, [(1, 2), (1, 1), (1, 2), (4, 0), (1, 16)]),
            (7, 7, 11, [(3, 2), (4, 0)]),
            (7, 7, 16, [(3, 2), (5, 0)]),
            (7, 9, 3, [(3, 2), (4, 0), (1, 13), (2, 2)]),
            (8, 8, 1, [(3, 2), (4, 0), (1, 16), (1, 4)]),
            (10, 11, 7, [(3, 2), (4, 0), (1, 16), (2, 5), (2, 0)]),
            (0, 9, 10 ** 30, [(10, 0)]),
            (0, FAR, 5, [(7, 0), (1, 11), (FAR - 7, 0)]),
            (FAR, FAR, 1, [(3, 2), (4, 0), (1, 16), (FAR - 8, 5), (1, 4)]),
            (0, 9, 0, [(3, 2), (4, 0), (1, 16)]),
        ]:
            with self.subTest(first=first, last=last, many=many):
                self.check(calendar.fewer(first, last, many), rows, 5)
        self.check(calendar, [(3, 2), (4, 0), (1, 16)], 5)

    def test_more(self):
        calendar = Calendar([(3, 2), (4, 0), (1, 16)], 5)
        for first, last, many, rows in [
            (0, 0, 1, [(1, 3), (2, 2), (4, 0), (1, 16)]),
            (3, 6, 2, [(7, 2), (1, 16)]),
            (3, 6, 5, [(3, 2), (4, 5), (1, 16)]),
            (7, 7, 20, [(3, 2), (4, 0), (1, 36)]),
            (6, 8, 1, [(3, 2), (3, 0), (1, 1), (1, 17), (1, 6)]),
            (8, 9, 11, [(3, 2), (4, 0), (3, 16)]),
            (20, 20, 1, [(3, 2), (4, 0), (1, 16), (12, 5), (1, 6)]),
            (0, 9, 0, [(3, 2), (4, 0), (1, 16)]),
        ]:
            with self.subTest(first=first, last=last, many=many):
                self.check(calendar.more(first, last, many), rows, 5)
        self.check(calendar, [(3, 2), (4, 0), (1, 16)], 5)

    def test_where_last_is_less_than_first_they_are_as_the_calendar(self):
        rows = [(3, 2), (4, 0), (1, 16)]
        calendar = Calendar(rows, 5)
        for first, last in [(1, 0), (3, 2), (5, 3), (8, 7), (9, 0), (20, 19), (20, 5), (10 ** 30, FAR)]:
            for many in [0, 1, 16]:
                self.check(calendar.fewer(first, last, many), rows, 5)
                self.check(calendar.more(first, last, many), rows, 5)

    def test_widened(self):
        calendar = Calendar([(3, 2), (4, 0), (1, 16)], 5)
        self.check(calendar.widened(0), [(3, 2), (4, 0), (1, 16)], 5)
        self.check(calendar.widened(1), [(3, 3), (4, 1), (1, 17)], 6)
        wide = calendar.widened(10 ** 30)
        self.assertEqual(wide.at(4), 10 ** 30)
        self.assertEqual(wide.at(FAR), 10 ** 30 + 5)
        self.check(calendar, [(3, 2), (4, 0), (1, 16)], 5)
        self.check(Calendar([], 1).widened(20), [], 21)

    def test_all_small_calendars(self):
        for rows, rest in small_calendars():
            calendar = Calendar(rows, rest)
            told = machines_of(rows, rest, 14)
            for first, last, many in itertools.product([0, 1, 3, 6, 10], [0, 2, 5, 9, 12], [0, 1, 2, 3]):
                here = [first <= turn <= last for turn in range(14)]
                down = [max(0, m - many) if inside else m for m, inside in zip(told, here)]
                up = [m + many if inside else m for m, inside in zip(told, here)]
                for made, wanted in [(calendar.fewer(first, last, many), down),
                                     (calendar.more(first, last, many), up)]:
                    self.assertEqual(told_by(made, 14), wanted)
                    self.assertEqual(made.rest(), rest)
                    turns = [t for t in range(1, 14) if wanted[t] != wanted[t - 1]]
                    self.assertEqual(made.changes(0, 13), turns)
                    self.assertEqual(made.over(0, 13), sum(wanted))
                    self.check_kept_form(made)
            self.assertEqual(told_by(calendar, 14), told)

    def check_kept_form(self, calendar):
        rows = calendar.rows()
        for row, behind in zip(rows, rows[1:]):
            self.assertNotEqual(row[1], behind[1])
        if rows:
            self.assertNotEqual(rows[-1][1], calendar.rest())
        self.assertTrue(all(many >= 1 for many, machines in rows))

    def test_one_told_by_another_one(self):
        calendar = Calendar([], 2)
        less = calendar.fewer(4, 9, 5)
        self.check(less, [(4, 2), (6, 0)], 2)
        again = less.more(6, 7, 2)
        self.check(again, [(4, 2), (2, 0), (2, 2), (2, 0)], 2)
        wide = again.widened(3)
        self.check(wide, [(4, 5), (2, 3), (2, 5), (2, 3)], 5)
        back = wide.more(4, 5, 2).more(8, 9, 2)
        self.check(back, [], 5)
        self.check(less, [(4, 2), (6, 0)], 2)
        self.check(again, [(4, 2), (2, 0), (2, 2), (2, 0)], 2)
        # What is cut off at 0 does not come back by as many more.
        self.check(less.more(4, 9, 5), [(4, 2), (6, 5)], 2)

    def test_told_ones_may_have_more_rows_than_16(self):
        calendar = Calendar([(1, at % 2) for at in range(16)], 5)
        for at in range(20, 60, 2):
            calendar = calendar.fewer(at, at, 1)
        rows = calendar.rows()
        self.assertEqual(len(rows), 16 + 1 + 20 + 19)
        self.assertEqual((calendar.end(), calendar.at(58), calendar.at(59)), (59, 4, 5))

    def test_lists_told_by_told_ones_are_the_askers_own(self):
        calendar = Calendar([(3, 2)], 5)
        for made in [calendar.fewer(0, 0, 1), calendar.fewer(1, 0, 1), calendar.more(4, 4, 1),
                     calendar.more(1, 0, 1), calendar.widened(0)]:
            rows = made.rows()
            told = list(rows)
            rows.clear()
            self.assertEqual(made.rows(), told)
            self.assertEqual(calendar.rows(), [(3, 2)])

    def test_over_spans_in_the_kept_form_of_tidy(self):
        calendar = Calendar([(3, 2)], 5).fewer(2, 4, 1)
        self.assertEqual(calendar.over_spans(tidy([(4, 5), (2, 3), (0, 0)])), 2 + 1 + 4 + 4 + 5)


class Asker:
    """Tells the machines of a list, and writes down which turns it was asked for."""

    def __init__(self, machines):
        self.machines = machines
        self.turns = []

    def tell(self, turn):
        self.turns.append(turn)
        return self.machines[turn]


class MadeOfAFunction(unittest.TestCase):
    def refused(self, machines, turns, rest):
        asker = Asker(machines)
        with self.assertRaises(NoCalendar):
            calendar_of(asker.tell, turns, rest)
        return asker.turns

    def test_each_turn_is_asked_once_and_rising(self):
        asker = Asker([2, 2, 0, 5, 16, 16, 3])
        calendar = calendar_of(asker.tell, 7, 4)
        self.assertEqual(asker.turns, [0, 1, 2, 3, 4, 5, 6])
        self.assertIsInstance(calendar, Calendar)
        self.assertEqual(calendar.rows(), [(2, 2), (1, 0), (1, 5), (2, 16), (1, 3)])
        self.assertEqual(calendar.rest(), 4)
        calendar.at(3)
        calendar.over(0, 9)
        self.assertEqual(len(asker.turns), 7)

    def test_rows_are_in_the_kept_form(self):
        self.assertEqual(calendar_of(Asker([2, 2, 4, 4]).tell, 4, 4).rows(), [(2, 2)])
        self.assertEqual(calendar_of(Asker([4, 4, 4]).tell, 3, 4).rows(), [])

    def test_no_turns(self):
        calendar = calendar_of(Asker([]).tell, 0, 4)
        self.assertEqual((calendar.rows(), calendar.rest()), ([], 4))

    def test_200_turns_are_asked_and_201_refused_unasked(self):
        asker = Asker([at // 20 for at in range(201)])
        calendar = calendar_of(asker.tell, 200, 16)
        self.assertEqual(asker.turns, list(range(200)))
        self.assertEqual(calendar.rows(), [(20, machines) for machines in range(10)])
        self.assertEqual(self.refused([1] * 300, 201, 4), [])

    def test_turns_that_are_none_are_refused_unasked(self):
        for turns in [-1, 201, 10 ** 30, -(10 ** 30)] + NO_NUMBERS:
            with self.subTest(turns):
                self.assertEqual(self.refused([1] * 300, turns, 4), [])

    def test_it_stops_at_what_is_no_number_of_machines(self):
        for wrong in NO_NUMBERS + [-1, 17, 10 ** 30]:
            with self.subTest(wrong):
                self.assertEqual(self.refused([wrong, 1, 1], 3, 4), [0])
                self.assertEqual(self.refused([0, 16, wrong, 1, wrong], 5, 4), [0, 1, 2])
                self.assertEqual(self.refused([1, 1, wrong], 3, 4), [0, 1, 2])
                self.assertEqual(self.refused([1, wrong, 1], 3, None), [0, 1])

    def test_16_rows_are_taken_and_17_refused(self):
        machines = [at % 2 for at in range(16)]
        rows = [(1, at % 2) for at in range(16)]
        self.assertEqual(calendar_of(Asker(machines).tell, 16, 4).rows(), rows)
        self.assertEqual(calendar_of(Asker(machines).tell, 16, 1).rows(), rows[:15])
        longer = [at // 5 % 2 for at in range(80)]
        self.assertEqual(len(calendar_of(Asker(longer).tell, 80, 4).rows()), 16)
        self.assertEqual(self.refused(machines + [2], 17, 4), list(range(17)))
        # The last row counts, though it is as the rest and would go.
        self.assertEqual(self.refused(machines + [4], 17, 4), list(range(17)))
        self.assertEqual(self.refused(machines + [4, 4, 4], 19, 4), list(range(19)))
        self.assertEqual(self.refused([at % 2 for at in range(200)], 200, 4), list(range(200)))

    def test_a_wrong_turn_behind_17_rows_is_still_asked(self):
        machines = [at % 2 for at in range(20)] + [17, 0]
        self.assertEqual(self.refused(machines, 22, 4), list(range(21)))

    def test_a_rest_that_is_none_is_refused_behind_the_asking(self):
        for rest in NO_NUMBERS + [0, 17, -1]:
            with self.subTest(rest):
                self.assertEqual(self.refused([1, 2, 3], 3, rest), [0, 1, 2])
                self.assertEqual(self.refused([], 0, rest), [])
        for rest in [1, 16]:
            self.assertEqual(calendar_of(Asker([3]).tell, 1, rest).rest(), rest)


if __name__ == "__main__":
    unittest.main()
