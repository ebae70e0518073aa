import random
import unittest

from dueyard.errors import NoLine
from dueyard.lines import load_in, load_text, number_in, plan_in, plan_text, spans_in, spans_text
from samples import Refusing

MOST = 10 ** 11 - 1
NO_FIGURES = ["", "00", "01", "007", "-1", "-0", "+1", " 1", "1 ", " ", "1 2", "1.0", "1e3", "1_0", "a", "x1", "0x1",
              "100000000000", "999999999999", "1" * 40, "1" * 5000, "-", "--", ";", "1;", "\n", "1\n", "\t1", "~",
              "\u0661", "\u00b2", "\u06f1\u06f2", "\uff11", "\u2160", "1\u0661", "\U0001d7d9", "None", "True"]
NO_NAMES = ["", "A", "1", "1a", "a-", "abcdefghi", "a\n", "\u00e4", "-", "aB"]


class Numbers(Refusing):
    def test_figures(self):
        for word, number in [("0", 0), ("1", 1), ("9", 9), ("10", 10), ("100", 100), ("907", 907),
                             ("10000000000", 10 ** 10), ("99999999999", MOST)]:
            self.assertEqual(number_in(word), number)
            self.assertIs(number_in(word).__class__, int)

    def test_no_figures(self):
        for word in NO_FIGURES:
            self.check_refused(NoLine, number_in, word)


class Reading(Refusing):
    def check_both_ways(self, tell, read, thing, text):
        ahead = list(thing)
        self.assertEqual(tell(thing), text)
        self.assertEqual(read(text), thing)
        self.assertEqual(thing, ahead)
        read(text).append("more")
        self.assertEqual(read(text), thing)
        self.assertIs(read(text).__class__, list)
        self.assertTrue(all(row.__class__ is tuple for row in read(text)))

    def check_no_texts(self, read, texts):
        for text in texts:
            self.check_refused(NoLine, read, text)

    def test_spans(self):
        for spans, text in [
            ([], "-"), ([(0, 0)], "0-0"), ([(3, 5)], "3-5"), ([(0, 3), (5, 5), (7, 10)], "0-3 5-5 7-10"),
            ([(MOST - 1, MOST)], "99999999998-99999999999"), ([(1, 2), (4, MOST)], "1-2 4-99999999999"),
        ]:
            self.check_both_ways(spans_text, spans_in, spans, text)

    def test_two_hundred_spans(self):
        spans = [(3 * place, 3 * place + 1) for place in range(200)]
        self.check_both_ways(spans_text, spans_in, spans, " ".join(f"{first}-{last}" for first, last in spans))

    def test_no_spans(self):
        self.check_no_texts(spans_in, [
            "", " ", "--", "- ", " -", "- -", "3", "3-", "-5", "3-5-", "-3-5", "3--5", "3-5-7", "3 5", "3-5 ", " 3-5",
            "3-5  7-9", "3-5; 7-9", "3-5;7-9", "3-5 -", "- 3-5", "3 -5", "3- 5", "3-5,", "3-5\n", "3-5\t7-9", "a-b",
            "5-3", "1-0", "7-9 3-5", "3-5 5-7", "3-5 6-7", "3-5 4-4", "3-5 3-5", "0-0 1-1", "0-0 2-2 3-3",
            "0-9 2-3", "03-5", "3-05", "0-100000000000", "100000000000-100000000001", "3-5 7", "3:5", "\u0663-5",
        ])
        for word in NO_FIGURES:
            self.check_no_texts(spans_in, [f"{word}-5", f"3-{word}", f"3-5 {word}-9"])

    def test_spans_that_just_part(self):
        self.assertEqual(spans_in("0-0 2-2"), [(0, 0), (2, 2)])
        self.assertEqual(spans_in("3-5 7-7"), [(3, 5), (7, 7)])

    def test_plans(self):
        for plan, text in [
            ([], "-"), ([(0, 0, "a")], "0 0 a"), ([(3, 1, "saw2")], "3 1 saw2"),
            ([(3, 1, "a"), (0, 0, "b")], "3 1 a; 0 0 b"), ([(3, 1, "a")] * 3, "3 1 a; 3 1 a; 3 1 a"),
            ([(MOST, MOST, "abcdefgh")], "99999999999 99999999999 abcdefgh"),
        ]:
            self.check_both_ways(plan_text, plan_in, plan, text)

    def test_a_thousand_rows(self):
        chance = random.Random(91)
        plan = [(chance.randint(0, 99), chance.randint(0, 15), chance.choice("abc")) for _ in range(1000)]
        text = "; ".join(f"{turn} {machine} {name}" for turn, machine, name in plan)
        self.check_both_ways(plan_text, plan_in, plan, text)

    def test_no_plans(self):
        self.check_no_texts(plan_in, [
            "", " ", "--", "- ", " -", "-; -", "-; 0 0 a", "0 0 a; -", ";", "; ", "0 0 a;", "0 0 a; ", "; 0 0 a",
            "0 0 a;0 1 b", "0 0 a;  0 1 b", "0 0 a ; 0 1 b", "0 0 a;; 0 1 b", "0 0 a; ; 0 1 b", "0 0 a 0 1 b",
            "0 0 a, 0 1 b", "0 0", "0 a", "a", "0 0 a b", "0 0 0 a", "0  0 a", " 0 0 a", "0 0 a ", "0 a 0", "a 0 0",
            "0 0 a\n", "0 0 a\n0 1 b", "0\t0\ta", "-1 0 a", "0 -1 a", "00 0 a", "0 01 a", "0 0 A", "0 0 1a",
            "100000000000 0 a", "0 100000000000 a", "0 0 abcdefghi", "0 0 a; 0 1", "0 1; 0 0 a", "0-0 a",
        ])
        for word in NO_FIGURES:
            self.check_no_texts(plan_in, [f"{word} 0 a", f"0 {word} a", f"0 0 a; {word} 1 b"])
        for name in NO_NAMES:
            self.check_no_texts(plan_in, [f"0 0 {name}", f"0 0 {name}; 0 1 a"])

    def test_loads(self):
        for load, text in [
            ([], "-"), ([("a", 0, 5, 3, 1)], "a 0 5 3 1"), ([("a", 0, -1, 3, 1)], "a 0 -1 3 1"),
            ([("b", 9, 5, 60, 16), ("a", 0, 0, 1, 1)], "b 9 5 60 16; a 0 0 1 1"),
            ([("a", 0, 5, 3, 1)] * 2, "a 0 5 3 1; a 0 5 3 1"),
            ([("a", 0, 5, 3, 1), ("a", 1, -1, 0, 0)], "a 0 5 3 1; a 1 -1 0 0"),
            ([("abcdefg8", MOST, MOST, MOST, MOST)], "abcdefg8" + " 99999999999" * 4),
        ]:
            self.check_both_ways(load_text, load_in, load, text)

    def test_two_hundred_jobs(self):
        load = [(f"j{place}", place, 10 ** 10, 1, 1) for place in range(200)]
        self.check_both_ways(load_text, load_in, load, "; ".join(f"j{place} {place} 10000000000 1 1"
                                                                  for place in range(200)))

    def test_no_loads(self):
        self.check_no_texts(load_in, [
            "", " ", "--", "- ", " -", "-; -", "a 0 5 3 1; -", ";", "a 0 5 3 1;", "a 0 5 3 1; ", "; a 0 5 3 1",
            "a 0 5 3 1;b 0 5 3 1", "a 0 5 3 1;  b 0 5 3 1", "a 0 5 3 1 ; b 0 5 3 1", "a 0 5 3", "a 0 5 3 1 1",
            "a 0 5", "a", "a  0 5 3 1", " a 0 5 3 1", "a 0 5 3 1 ", "0 a 5 3 1", "a -1 5 3 1", "a 0 5 -1 1",
            "a 0 5 3 -1", "a 0 -2 3 1", "a 0 -0 3 1", "a 0 -01 3 1", "a 0 - 3 1", "a 0 --1 3 1", "a 0 -1- 3 1",
            "a 0 5 3 1\n", "a 0 5 3 1; b 0 5 3", "a 00 5 3 1", "a 0 05 3 1", "a 0 5 03 1", "a 0 5 3 01",
        ])
        for word in NO_FIGURES:
            self.check_no_texts(load_in, [f"a {word} 5 3 1", f"a 0 5 {word} 1", f"a 0 5 3 {word}"])
            if word != "-1":
                self.check_no_texts(load_in, [f"a 0 {word} 3 1", f"a 0 5 3 1; b 0 {word} 3 1"])
        for name in NO_NAMES:
            self.check_no_texts(load_in, [f"{name} 0 5 3 1", f"a 0 5 3 1; {name} 0 5 3 1"])

    def test_any_texts_told_are_read_again(self):
        chance = random.Random(92)
        for _ in range(100):
            turns = sorted(chance.sample(range(0, 60, 2), 2 * chance.randint(0, 9)))
            spans = list(zip(turns[::2], turns[1::2]))
            self.assertEqual(spans_in(spans_text(spans)), spans)
            names = ["a", "b2", "saw", "mill4567"]
            plan = [(chance.randint(0, 99), chance.randint(0, 9), chance.choice(names)) for _ in range(9)]
            self.assertEqual(plan_in(plan_text(plan)), plan)
            load = [(chance.choice(names), chance.randint(0, 99), chance.randint(-1, 99), chance.randint(0, 99), 1)
                    for _ in range(chance.randint(0, 9))]
            self.assertEqual(load_in(load_text(load)), load)


if __name__ == "__main__":
    unittest.main()
