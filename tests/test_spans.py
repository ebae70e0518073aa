import itertools
import random
import unittest

from dueyard.errors import NoSpans
from dueyard.spans import (
    has_turn, is_whole, joined, less, shared, spans_of, tidy, turn_count, turn_count_in,
)

FAR = 10 ** 10
NO_NUMBERS = [True, False, None, "1", "", 1.0, [1], (1,), {}, b"1", 1j, object]
NO_LISTS = [None, True, 0, 7, "", "12", (), ((1, 2),), {}, {1: 2}, {1}, range(3), iter([]), object()]


def turns_of(spans):
    return {turn for first, last in spans for turn in range(first, last + 1)}


def kept_form(turns):
    """The kept form of a small set of turns, reckoned in another way than by the program."""
    firsts = sorted(turn for turn in turns if turn - 1 not in turns)
    lasts = sorted(turn for turn in turns if turn + 1 not in turns)
    return list(zip(firsts, lasts))


def small_sets(size):
    for many in range(size + 1):
        for turns in itertools.combinations(range(size), many):
            yield set(turns)


class WholeNumbers(unittest.TestCase):
    def test_whole_numbers(self):
        for thing in [0, 1, -1, 16, 10 ** 10, -(10 ** 30)]:
            self.assertIs(is_whole(thing), True, thing)

    def test_truths_and_other_things_are_none(self):
        for thing in NO_NUMBERS + [(), [], {1}, range(3), iter([]), object()]:
            self.assertIs(is_whole(thing), False, thing)


class Tidy(unittest.TestCase):
    def test_rows_are_told_in_the_kept_form(self):
        for rows, spans in [
            ([], []),
            ([(3, 5)], [(3, 5)]),
            ([(4, 4)], [(4, 4)]),
            ([(7, 9), (1, 2)], [(1, 2), (7, 9)]),
            ([(1, 2), (1, 2)], [(1, 2)]),
            ([(1, 4), (3, 8)], [(1, 8)]),
            ([(3, 8), (1, 4)], [(1, 8)]),
            ([(1, 9), (3, 4)], [(1, 9)]),
            ([(1, 9), (3, 4), (11, 12)], [(1, 9), (11, 12)]),
            ([(1, 3), (4, 6)], [(1, 6)]),
            ([(4, 6), (1, 3)], [(1, 6)]),
            ([(1, 3), (5, 6)], [(1, 3), (5, 6)]),
            ([(5, 6), (1, 3), (4, 4)], [(1, 6)]),
            ([(0, 0), (FAR, FAR)], [(0, 0), (FAR, FAR)]),
            ([(0, FAR)], [(0, FAR)]),
            ([(0, FAR - 1), (FAR, FAR)], [(0, FAR)]),
        ]:
            with self.subTest(rows):
                self.assertEqual(tidy(rows), spans)

    def test_all_lists_of_up_to_three_small_rows(self):
        rows = [(first, last) for first in range(6) for last in range(first, 6)]
        for many in range(4):
            for some in itertools.product(rows, repeat=many):
                self.assertEqual(tidy(list(some)), kept_form(turns_of(some)), some)

    def test_many_rows_in_any_order(self):
        chance = random.Random(10)
        for many in [10, 40, 199, 200]:
            rows = []
            for _ in range(many):
                first = chance.randrange(600)
                rows.append((first, first + chance.randrange(4)))
            self.assertEqual(tidy(rows), kept_form(turns_of(rows)))

    def test_200_rows_are_taken_and_201_refused(self):
        rows = [(3 * at, 3 * at + 1) for at in range(200)]
        self.assertEqual(tidy(rows[::-1]), rows)
        with self.assertRaises(NoSpans):
            tidy(rows + [(3 * 200, 3 * 200)])
        with self.assertRaises(NoSpans):
            tidy([(1, 1)] * 201)
        self.assertEqual(tidy([(1, 1)] * 200), [(1, 1)])

    def test_what_is_no_list_is_refused(self):
        for thing in NO_LISTS:
            with self.subTest(thing):
                with self.assertRaises(NoSpans):
                    tidy(thing)

    def test_rows_that_are_no_rows_are_refused(self):
        wrong = [(), (1,), (1, 2, 3), [1, 2], [], "12", "", 1, None, True, {1: 2, 3: 4}, {1, 2}]
        wrong += [(5, 4), (1, 0), (FAR, FAR - 1)]
        wrong += [(-1, 0), (-1, -1), (-5, 5), (0, FAR + 1), (FAR + 1, FAR + 1), (0, 10 ** 30)]
        wrong += [(thing, 5) for thing in NO_NUMBERS] + [(0, thing) for thing in NO_NUMBERS]
        for row in wrong:
            for rows in [[row], [(1, 2), row], [row, (1, 2)]]:
                with self.subTest(rows):
                    with self.assertRaises(NoSpans):
                        tidy(rows)

    def test_what_is_handed_in_stays_and_may_be_changed_behind(self):
        rows = [(7, 9), (1, 2), (3, 4)]
        spans = tidy(rows)
        self.assertEqual(rows, [(7, 9), (1, 2), (3, 4)])
        rows.append((20, 30))
        rows[0] = (0, 0)
        self.assertEqual(spans, [(1, 4), (7, 9)])

    def test_what_is_told_is_the_askers_own(self):
        rows = [(1, 4), (7, 9)]
        spans = tidy(rows)
        self.assertIsNot(spans, rows)
        spans.clear()
        self.assertEqual(rows, [(1, 4), (7, 9)])
        self.assertEqual(tidy(rows), [(1, 4), (7, 9)])
        nothing = tidy([])
        nothing.append((1, 1))
        self.assertEqual(tidy([]), [])

    def test_what_is_refused_stays_as_it_was(self):
        rows = [(7, 9), (1, 2), (3, True)]
        with self.assertRaises(NoSpans):
            tidy(rows)
        self.assertEqual(rows, [(7, 9), (1, 2), (3, True)])


class SpansOf(unittest.TestCase):
    def test_turns_are_told_in_the_kept_form(self):
        for turns, spans in [
            ([], []),
            ([0], [(0, 0)]),
            ([FAR], [(FAR, FAR)]),
            ([FAR, 0, FAR - 1], [(0, 0), (FAR - 1, FAR)]),
            ([5, 3, 4], [(3, 5)]),
            ([5, 5, 5], [(5, 5)]),
            ([9, 2, 7, 2, 8, 4], [(2, 2), (4, 4), (7, 9)]),
        ]:
            with self.subTest(turns):
                self.assertEqual(spans_of(turns), spans)

    def test_all_small_sets_in_either_order(self):
        for turns in small_sets(8):
            self.assertEqual(spans_of(sorted(turns)), kept_form(turns))
            self.assertEqual(spans_of(sorted(turns, reverse=True)), kept_form(turns))

    def test_200_turns_are_taken_and_201_refused(self):
        turns = [2 * at for at in range(200)]
        self.assertEqual(spans_of(turns), [(turn, turn) for turn in turns])
        self.assertEqual(spans_of([1] * 200), [(1, 1)])
        with self.assertRaises(NoSpans):
            spans_of(turns + [400])
        with self.assertRaises(NoSpans):
            spans_of([1] * 201)

    def test_what_is_no_list_is_refused(self):
        for thing in NO_LISTS:
            with self.subTest(thing):
                with self.assertRaises(NoSpans):
                    spans_of(thing)

    def test_turns_that_are_no_turns_are_refused(self):
        for thing in NO_NUMBERS + [-1, FAR + 1, -(10 ** 30), 10 ** 30, (1, 2)]:
            for turns in [[thing], [3, thing], [thing, 3]]:
                with self.subTest(turns):
                    with self.assertRaises(NoSpans):
                        spans_of(turns)

    def test_what_is_handed_in_stays_and_may_be_changed_behind(self):
        turns = [5, 3, 4, 9]
        spans = spans_of(turns)
        self.assertEqual(turns, [5, 3, 4, 9])
        turns.clear()
        self.assertEqual(spans, [(3, 5), (9, 9)])
        spans.clear()
        self.assertEqual(spans_of([5, 3, 4, 9]), [(3, 5), (9, 9)])


class AskedAboutOneSet(unittest.TestCase):
    SPANS = [(0, 0), (3, 5), (7, 7), (100, FAR)]

    def test_turns_at_ahead_of_and_behind_the_ends(self):
        inside = [0, 3, 4, 5, 7, 100, 101, FAR - 1, FAR]
        beside = [-(10 ** 30), -5, -1, 1, 2, 6, 8, 99, FAR + 1, 10 ** 30]
        for turn in inside:
            self.assertIs(has_turn(self.SPANS, turn), True, turn)
        for turn in beside:
            self.assertIs(has_turn(self.SPANS, turn), False, turn)
        self.assertIs(has_turn([], 0), False)

    def test_how_many_turns(self):
        self.assertEqual(turn_count([]), 0)
        self.assertEqual(turn_count([(4, 4)]), 1)
        self.assertEqual(turn_count([(0, FAR)]), FAR + 1)
        self.assertEqual(turn_count(self.SPANS), 1 + 3 + 1 + FAR - 99)

    def test_how_many_turns_from_first_to_last(self):
        for first, last, many in [
            (0, 0, 1), (-9, -1, 0), (-9, 0, 1), (1, 2, 0), (0, 3, 2), (1, 3, 1), (3, 5, 3), (4, 4, 1),
            (5, 6, 1), (6, 6, 0), (6, 7, 1), (5, 7, 2), (4, 100, 4), (8, 99, 0),
            (FAR, FAR + 9, 1), (FAR + 1, FAR + 9, 0), (FAR - 1, 10 ** 30, 2),
            (-(10 ** 30), 10 ** 30, FAR - 94), (5, 4, 0), (5, 3, 0), (4, 3, 0), (FAR, 0, 0),
            (10 ** 30, -(10 ** 30), 0), (0, -1, 0),
        ]:
            with self.subTest(first=first, last=last):
                self.assertEqual(turn_count_in(self.SPANS, first, last), many)

    def test_all_small_sets(self):
        for turns in small_sets(6):
            spans = kept_form(turns)
            self.assertEqual(turn_count(spans), len(turns))
            for first in range(-2, 9):
                self.assertIs(has_turn(spans, first), first in turns)
                for last in range(-3, 9):
                    wanted = len([turn for turn in turns if first <= turn <= last])
                    self.assertEqual(turn_count_in(spans, first, last), wanted)

    def test_what_is_handed_in_stays(self):
        spans = list(self.SPANS)
        has_turn(spans, 4)
        turn_count(spans)
        turn_count_in(spans, 0, 9)
        self.assertEqual(spans, self.SPANS)


class TwoSets(unittest.TestCase):
    def test_named_edges(self):
        for one, other, both, common, rest in [
            ([], [], [], [], []),
            ([(1, 4)], [], [(1, 4)], [], [(1, 4)]),
            ([], [(1, 4)], [(1, 4)], [], []),
            ([(1, 4), (6, 8)], [(1, 4), (6, 8)], [(1, 4), (6, 8)], [(1, 4), (6, 8)], []),
            ([(1, 4)], [(5, 8)], [(1, 8)], [], [(1, 4)]),
            ([(5, 8)], [(1, 4)], [(1, 8)], [], [(5, 8)]),
            ([(1, 4)], [(6, 8)], [(1, 4), (6, 8)], [], [(1, 4)]),
            ([(1, 4)], [(4, 8)], [(1, 8)], [(4, 4)], [(1, 3)]),
            ([(1, 9)], [(4, 6)], [(1, 9)], [(4, 6)], [(1, 3), (7, 9)]),
            ([(4, 6)], [(1, 9)], [(1, 9)], [(4, 6)], []),
            ([(1, 9)], [(1, 3), (7, 9)], [(1, 9)], [(1, 3), (7, 9)], [(4, 6)]),
            ([(1, 2), (4, 5)], [(3, 3)], [(1, 5)], [], [(1, 2), (4, 5)]),
            ([(0, FAR)], [(5, 5)], [(0, FAR)], [(5, 5)], [(0, 4), (6, FAR)]),
            ([(0, FAR)], [(0, 0), (FAR, FAR)], [(0, FAR)], [(0, 0), (FAR, FAR)], [(1, FAR - 1)]),
        ]:
            with self.subTest(one=one, other=other):
                self.assertEqual(joined(one, other), both)
                self.assertEqual(shared(one, other), common)
                self.assertEqual(less(one, other), rest)

    def test_all_pairs_of_small_sets(self):
        for one in small_sets(7):
            for other in small_sets(7):
                spans = (kept_form(one), kept_form(other))
                self.assertEqual(joined(*spans), kept_form(one | other))
                self.assertEqual(shared(*spans), kept_form(one & other))
                self.assertEqual(less(*spans), kept_form(one - other))

    def test_two_sets_of_200_spans_each(self):
        one = [(4 * at, 4 * at + 1) for at in range(200)]
        other = [(4 * at + 2, 4 * at + 2) for at in range(200)]
        self.assertEqual(joined(one, other), [(4 * at, 4 * at + 2) for at in range(200)])
        self.assertEqual(shared(one, other), [])
        self.assertEqual(less(one, other), one)
        beside = [(4 * at + 3, 4 * at + 3) for at in range(200)]
        apart = joined(spans_of([4 * at + 1 for at in range(200)]), beside)
        self.assertEqual(len(apart), 400)

    def test_what_is_handed_in_stays_and_may_be_changed_behind(self):
        for tell in [joined, shared, less]:
            for others in [[], [(1, 2)], [(0, 20)], [(3, 5), (9, 9)], [(40, 50)]]:
                with self.subTest(tell=tell, others=others):
                    one = [(3, 5), (9, 9)]
                    other = list(others)
                    spans = tell(one, other)
                    self.assertEqual((one, other), ([(3, 5), (9, 9)], others))
                    kept = list(spans)
                    one.clear()
                    other.append((900, 901))
                    self.assertEqual(spans, kept)

    def test_what_is_told_is_the_askers_own(self):
        for tell in [joined, shared, less]:
            for other in [[], [(3, 5), (9, 9)]]:
                with self.subTest(tell=tell, other=other):
                    one = [(3, 5), (9, 9)]
                    hers = list(other)
                    wanted = tell(one, hers)
                    told = tell(one, hers)
                    told.append((900, 901))
                    told.extend(told)
                    self.assertEqual((one, hers), ([(3, 5), (9, 9)], other))
                    self.assertEqual(tell(one, hers), wanted)


if __name__ == "__main__":
    unittest.main()
