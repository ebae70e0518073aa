import random
import unittest

from dueyard.calendars import Calendar
from dueyard.desk import Desk
from dueyard.errors import NoCalendar, NoJob, NoLine, NoName, NoNumber, Taken, TooMany, Twice, YardError
from dueyard.lines import load_in, plan_in, spans_in
from dueyard.offers import offer, room, soonest
from dueyard.plans import faults
from dueyard.verdicts import overflow
from dueyard.yard import Yard
from samples import Refusing

ASKED = ["now", "plan", "load", "log", "names", "gave", "machines 0", "machines 3", "machines 9"]
LINES = ["ask b 0 5 1", "ask b 0 5 1 1", "withdraw a", "pass 1", "find 0 5 1", "lose 0 5 1", "offer b 0 1",
         "offer b 0 1 1", "room b 0 5", "room b 0 5 1", "soonest a", "overflow 0-3", "walk 0 0 a", "now", "plan",
         "load", "log", "names", "gave", "state a", "machines 3"]


def told_by(desk):
    return [desk.say(line) for line in ASKED]


def desk_with(*lines):
    desk = Desk()
    for line in lines:
        desk.say(line)
    return desk


def paper_text(paper):
    """Point 94, for spans and names of which there are some."""
    spans, names = paper
    return (" ".join(f"{first}-{last}" for first, last in spans) or "-") + "; " + (" ".join(names) or "-")


class Saying(Refusing):
    def check_answers(self, desk, rows):
        for line, answer in rows:
            told = desk.say(line)
            self.assertEqual(told, answer, line)
            self.assertRegex(told, r"\A[a-z0-9 ;-]+\Z")

    def check_no_line(self, desk, line, error=NoLine):
        """What is refused changes nothing (5)."""
        ahead = told_by(desk)
        refusal = self.check_refused(error, desk.say, line)
        self.assertEqual(told_by(desk), ahead, line)
        return refusal


class NoYard(Saying):
    def test_every_line_but_open_is_refused(self):
        desk = Desk()
        for line in LINES + ["", " ", "what", "open", "open 0x", "open 1 2", "ask A x", "Open 1"]:
            self.check_refused(NoLine, desk.say, line)
        for line in ["open 0", "open 17", "open 1 0 1", "open 1 5 17", "open 1 1000001 1"]:
            self.check_refused(NoCalendar, desk.say, line)
        self.check_refused(NoLine, desk.say, "now")
        self.assertEqual(desk.say("open 1"), "ok")
        self.assertEqual(desk.say("now"), "0")


class Opening(Saying):
    def test_calendars(self):
        for line, machines in [
            ("open 1", [1, 1, 1, 1, 1]), ("open 16", [16, 16, 16, 16, 16]), ("open 2 3 0", [0, 0, 0, 2, 2]),
            ("open 2 1 5 2 0", [5, 0, 0, 2, 2]), ("open 7 1 1 1 1 1 2", [1, 1, 2, 7, 7]),
        ]:
            desk = Desk()
            self.assertEqual(desk.say(line), "ok")
            self.assertEqual([desk.say(f"machines {turn}") for turn in range(5)], [str(many) for many in machines])
            self.check_answers(desk, [("now", "0"), ("plan", "-"), ("load", "-"), ("log", "-"), ("names", "-"),
                                      ("gave", "-")])

    def test_sixteen_rows_and_seventeen(self):
        rows = " 1 1 1 2" * 8
        desk = desk_with("open 3" + rows)
        self.check_answers(desk, [("machines 14", "1"), ("machines 15", "2"), ("machines 16", "3")])
        self.check_no_line(desk, "open 3" + rows + " 1 1", NoCalendar)

    def test_a_good_one_takes_the_place_of_the_yard(self):
        desk = desk_with("open 1", "ask a 0 5 2", "pass 3", "lose 0 9 1", "open 2 2 1")
        self.check_answers(desk, [("now", "0"), ("plan", "-"), ("load", "-"), ("log", "-"), ("names", "-"),
                                  ("gave", "-"), ("machines 0", "1"), ("machines 2", "2"), ("ask a 0 5 2", "kept")])

    def test_one_that_is_refused_leaves_the_yard(self):
        desk = desk_with("open 1", "ask a 0 5 2", "pass 1")
        for line in ["open", "open ", "open 1 2", "open 1 2 3 4", "open x", "open 1 x 3", "open 1 3 -1", "open  1",
                     "open 1 ", "open 01", "open 100000000000", "open -1", "Open 1", "opens 1"]:
            self.check_no_line(desk, line)
        for line in ["open 0", "open 17", "open 1 0 1", "open 1 5 17", "open 1 1000001 1", "open 99999999999"]:
            self.check_no_line(desk, line, NoCalendar)

    def test_figures_ahead_of_the_calendar(self):
        desk = desk_with("open 1")
        for line in ["open 0 x 1", "open 17 1 x", "open 0 5", "open 1 0 1 x 1"]:
            self.check_no_line(desk, line)


class Answers(Saying):
    def test_ask(self):
        desk = desk_with("open 1")
        self.check_answers(desk, [
            ("ask a 0 4 3", "kept"), ("ask b 0 4 3", "full 1; 0-4; a b"), ("ask b 0 4 2", "kept"),
            ("ask c 9 8 7", "full 7; -; c"), ("ask c 9 9 2 2", "full 1; 9-9; c"), ("ask c 9 10 2 2", "kept"),
            ("names", "a b c"), ("load", "a 0 4 3 1; b 0 4 2 1; c 9 10 2 2"),
        ])
        desk = desk_with("open 2")
        self.check_answers(desk, [("ask a 0 0 2", "full 1; -; a"), ("ask a 0 0 2 1", "full 1; -; a"),
                                  ("ask a 0 0 2 2", "kept")])

    def test_ask_behind_the_turn(self):
        desk = desk_with("open 1", "pass 5")
        self.check_answers(desk, [("ask a 0 7 4", "full 1; -; a"), ("ask a 0 7 3", "kept"), ("load", "a 5 7 3 1"),
                                  ("state a", "standing 0 7 3 1 3"), ("ask b 0 4 2", "full 2; -; b")])

    def test_pass_and_withdraw(self):
        desk = desk_with("open 1", "ask a 2 4 3", "ask b 0 1 2", "ask c 5 5 1")
        self.check_answers(desk, [
            ("pass 0", "-"), ("pass 1", "0 0 b"), ("pass 2", "1 0 b; 2 0 a"), ("now", "3"), ("withdraw a", "2"),
            ("state a", "withdrawn 2 4 3 1 2"), ("state b", "finished 0 1 2 1 0"), ("state c", "standing 5 5 1 1 1"),
            ("load", "c 5 5 1 1"), ("names", "a b c"), ("log", "0 0 b; 1 0 b; 2 0 a"), ("plan", "5 0 c"),
            ("pass 1000000", "5 0 c"), ("plan", "-"), ("load", "-"), ("now", "1000003"), ("pass 7", "-"),
            ("log", "0 0 b; 1 0 b; 2 0 a; 5 0 c"), ("names", "a b c"),
        ])

    def test_plan_and_log(self):
        desk = desk_with("open 2", "ask a 0 0 2 2", "ask b 3 3 1")
        self.check_answers(desk, [("plan", "0 0 a; 0 1 a; 3 0 b"), ("log", "-"), ("pass 1", "0 0 a; 0 1 a"),
                                  ("plan", "3 0 b"), ("log", "0 0 a; 0 1 a")])

    def test_find(self):
        desk = desk_with("open 1", "pass 2")
        self.check_answers(desk, [("find 0 3 4", "ok"), ("machines 1", "1"), ("machines 2", "5"), ("machines 3", "5"),
                                  ("machines 4", "1"), ("find 5 4 16", "ok"), ("machines 5", "1"), ("now", "2"),
                                  ("machines 99999999999", "1")])

    def test_lose(self):
        desk = desk_with("open 1", "ask a 0 1 2", "ask b 20 29 3")
        self.check_answers(desk, [
            ("lose 5 9 1", "0 0"), ("lose 9 5 1", "0 0"), ("lose 0 9 0", "0 0"), ("gave", "-"), ("find 5 9 1", "ok"),
            ("lose 0 2 1", "3 1; 0-2; a; a 1 4"), ("machines 2", "0"), ("machines 3", "1"), ("gave", "0 a 1 4"),
            ("state a", "standing 0 4 2 1 2"), ("state b", "standing 20 29 3 1 3"),
        ])

    def test_several_give_way(self):
        desk = desk_with("open 2", "ask z 0 1 2", "ask a 0 1 2", "ask m 9 9 1", "pass 1")
        self.check_answers(desk, [
            ("lose 0 3 16", "3 2; 1-3; z a; z 1 4; a 1 4"), ("gave", "1 z 1 4; 1 a 1 4"),
            ("pass 4", "4 0 z; 4 1 a"), ("lose 9 9 2", "1 1; 9-9; m; m 9 10"),
            ("gave", "1 z 1 4; 1 a 1 4; 5 m 9 10"),
        ])

    def test_offer(self):
        desk = desk_with("open 1", "ask a 0 4 3", "ask b 2 9 4")
        self.check_answers(desk, [
            ("offer c 0 2", "1; -; c"), ("offer c 0 4", "10; 0-9; a b c"), ("offer c 0 4 16", "10; 0-9; a b c"),
            ("offer c 20 1", "20; -; c"), ("offer c 20 2 1", "21; -; c"), ("offer c 1000000000 1", "1000000000; -; c"),
            ("names", "a b"),
        ])
        desk.say("pass 20")
        self.check_answers(desk, [("offer c 0 2", "21; -; c"), ("offer c 20 2", "21; -; c"),
                                  ("offer c 21 2", "22; -; c")])

    def test_room(self):
        desk = desk_with("open 1", "ask a 0 4 3", "ask b 2 9 4")
        self.check_answers(desk, [
            ("room c 0 9", "3; 0-9; a b c"), ("room c 0 99", "60"), ("room c 10 12", "3; -; c"),
            ("room c 10 12 2", "3; 10-12; c"), ("room c 9 8", "0; -; c"), ("room c 0 10000000000 16", "60"),
            ("names", "a b"),
        ])
        desk.say("pass 20")
        self.check_answers(desk, [("room c 0 22", "3; -; c"), ("room c 20 22", "3; -; c"), ("room c 21 22", "2; -; c"),
                                  ("room c 0 19", "0; -; c")])

    def test_soonest(self):
        desk = desk_with("open 1", "ask a 0 4 3", "ask b 2 90 4")
        self.check_answers(desk, [("soonest a", "2; -; a"), ("soonest b", "6; 2-4; a b"), ("pass 1", "0 0 a"),
                                  ("soonest a", "2; -; a")])

    def test_overflow(self):
        desk = desk_with("open 2", "ask a 0 4 3", "ask b 2 9 4")
        self.check_answers(desk, [
            ("overflow -", "0"), ("overflow 0-4", "-7"), ("overflow 0-9", "-13"), ("overflow 0-4 6-6", "-9"),
            ("overflow 0-10000000000", "-19999999995"), ("overflow 100-100", "-2"),
            ("overflow 0-99999999999", "-199999999993"),
        ])
        self.assertEqual(desk_with("open 1", "ask a 0 1 2").say("overflow 0-1"), "0")

    def test_walk(self):
        desk = desk_with("open 2", "ask a 0 4 2", "ask b 2 9 4 2")
        self.check_answers(desk, [
            ("walk -", "-"), ("walk 0 0 a", "-"), ("walk 0 0 a; 1 0 a; 2 0 b; 2 1 b", "-"), ("walk 0 0 c", "0 name"),
            ("walk 9 0 a; 0 7 a; 0 0 b; 2 0 b; 2 0 b", "0 window; 1 machine; 2 window; 4 taken"),
            ("walk 1 0 a; 1 1 a; 2 0 a; 3 0 a", "1 breadth; 2 work; 3 work"),
            ("walk 99999999999 99999999999 b", "0 window"),
        ])
        desk.say("pass 3")
        self.check_answers(desk, [("walk 2 0 b; 3 0 b", "0 window")])

    def test_state_and_names(self):
        desk = desk_with("open 1", "ask b 0 4 3 2", "ask a 9 9 1")
        self.check_answers(desk, [("names", "b a"), ("state b", "standing 0 4 3 2 3"),
                                  ("state a", "standing 9 9 1 1 1")])


class Wrong(Saying):
    def desk(self):
        return desk_with("open 2", "ask a 0 5 2", "pass 1")

    def test_no_lines(self):
        for line in ["", " ", "-", "what", "Now", "NOW", "now now", "now ", " now", "now 1", "plan 0 0 a", "load -",
                     "log ", "names a", "gave 0", "opening 1", "asks b 0 5 1", "now\n", "now\t", "n\u00f6w", "open\t1",
                     "machine 3", "__init__", "yard", "say", "overflow", "walk", "close", "pass", "help"]:
            self.check_no_line(self.desk(), line)

    def test_words_more_or_fewer(self):
        for line in LINES:
            if line.partition(" ")[0] not in ["ask", "offer", "room"]:
                self.check_no_line(self.desk(), line + " 1")
            self.check_no_line(self.desk(), line + " 1 1")
            self.check_no_line(self.desk(), line + " ")
            self.check_no_line(self.desk(), " " + line)
            if " " in line and line.partition(" ")[0] not in ["ask", "offer", "room"]:
                self.check_no_line(self.desk(), line.rpartition(" ")[0])
                self.check_no_line(self.desk(), line.partition(" ")[0])
        for line in ["ask", "ask b", "ask b 0", "ask b 0 5", "ask b 0 5 1 1 1", "offer", "offer b", "offer b 0",
                     "offer b 0 1 1 1", "room", "room b", "room b 0", "room b 0 5 1 1"]:
            self.check_no_line(self.desk(), line)

    def test_no_figures(self):
        for line in ["ask b # 5 1", "ask b 0 # 1", "ask b 0 5 #", "ask b 0 5 1 #", "pass #", "find # 5 1", "find 0 # 1",
                     "find 0 5 #", "lose # 5 1", "lose 0 # 1", "lose 0 5 #", "offer b # 1", "offer b 0 #",
                     "offer b 0 1 #", "room b # 5", "room b 0 #", "room b 0 5 #", "machines #"]:
            for word in ["", "x", "-1", "00", "01", "+1", "1.0", "100000000000", "-", "\u0661", "1\n", "1;"]:
                self.check_no_line(self.desk(), line.replace("#", word))

    def test_no_spans_and_no_plans(self):
        for text in ["", " ", "5", "5-3", "0-3 4-5", "0-3; 5-6", "0-3  5-6", "0-3 ", " 0-3", "--", "-1-3", "a", "0-x",
                     "- -", "0-3\n"]:
            self.check_no_line(self.desk(), "overflow " + text)
        for text in ["", " ", "0 0", "0 0 A", "0 0 a;", "0 0 a;0 1 a", "0 0 a; ", "0 0 a  1 0 a", "-1 0 a", "x 0 a",
                     "0 -1 a", "0 0 a b", "- -", "0 0 a ", " 0 0 a"]:
            self.check_no_line(self.desk(), "walk " + text)

    def test_what_the_stages_refuse_comes_through(self):
        for line, error in [
            ("ask B 0 5 1", NoName), ("ask  0 5 1", NoName), ("ask b-c 0 5 1", NoName), ("ask ; 0 5 1", NoName),
            ("ask a 0 5 1", Taken), ("ask b 1000001 5 1", NoNumber), ("ask b 0 1000001 1", NoNumber),
            ("ask b 0 5 0", NoNumber), ("ask b 0 5 61", NoNumber), ("ask b 0 5 1 0", NoNumber),
            ("ask b 0 5 1 17", NoNumber), ("ask b 99999999999 5 1", NoNumber),
            ("withdraw b", NoJob), ("withdraw ", NoJob), ("withdraw A", NoJob), ("pass 1000001", NoNumber),
            ("find 1000001 5 1", NoNumber), ("find 0 1000001 1", NoNumber), ("find 0 5 17", NoNumber),
            ("lose 1000001 5 1", NoNumber), ("lose 0 1000001 1", NoNumber), ("lose 0 5 17", NoNumber),
            ("offer B 0 1", NoName), ("offer  0 1", NoName), ("offer a 0 1", Twice), ("offer b 1000000001 1", NoNumber),
            ("offer b 0 0", NoNumber), ("offer b 0 61", NoNumber), ("offer b 0 1 0", NoNumber),
            ("offer b 0 1 17", NoNumber), ("room B 0 5", NoName), ("room  0 5", NoName), ("room a 0 5", Twice),
            ("room b 1000000001 5", NoNumber), ("room b 0 10000000001", NoNumber), ("room b 0 5 0", NoNumber),
            ("room b 0 5 17", NoNumber), ("soonest b", NoJob), ("soonest ", NoJob), ("state b", NoJob),
            ("state ", NoJob), ("state A", NoJob),
        ]:
            self.check_no_line(self.desk(), line, error)
        for line, error, name in [("withdraw b", NoJob, "b"), ("soonest ", NoJob, ""), ("state x-y", NoJob, "x-y"),
                                  ("ask a 0 5 1", Taken, "a"), ("room a 0 5", Twice, "a")]:
            self.assertEqual(self.check_no_line(self.desk(), line, error).name, name)

    def test_twelve_jobs(self):
        desk = desk_with("open 16", *[f"ask j{place} 0 9 1" for place in range(12)])
        for line in ["ask b 0 5 1", "offer b 0 1", "room b 0 5", "offer B 0 1"]:
            self.check_no_line(desk, line, TooMany)
        self.assertEqual(desk.say("soonest j3").partition(";")[0], "0")
        self.assertEqual(desk.say("names"), " ".join(f"j{place}" for place in range(12)))

    def test_figures_ahead_of_all_that_a_stage_refuses(self):
        for line in ["ask B 0 5 x", "ask a x 5 1", "ask  0 5 x", "ask B 0 5 61 x", "offer a 0 x", "offer B x 1",
                     "room a x 5", "room B 0 5 -1", "pass 1000001x", "lose 1000001 5 -1", "find 1000001 x 17"]:
            self.check_no_line(self.desk(), line)


class BesideAYard(Saying):
    """A desk and a yard that are told the same tell the same."""

    def random_line(self, chance, turn):
        name = chance.choice(["a", "b", "c", "d", "e", "saw", "A", ""])
        first = max(0, turn + chance.randint(-2, 8))
        last, work, breadth = first + chance.randint(0, 9), chance.randint(1, 6), chance.randint(1, 2)
        return chance.choice([
            f"ask {name} {first} {last} {work}", f"ask {name} {first} {last} {work} {breadth}", f"withdraw {name}",
            f"pass {chance.randint(0, 3)}", f"find {first} {last} 1", f"lose {first} {last} {chance.randint(0, 2)}",
            f"offer {name} {first} {work}", f"offer {name} {first} {work} {breadth}", f"room {name} {first} {last}",
            f"room {name} {first} {last} {breadth}", f"soonest {name}", f"overflow {first}-{last}",
            f"overflow {first}-{last} {last + 2}-{last + 4}", f"walk {first} 0 {name or 'a'}; {last} 1 b".lower(),
            "now", "plan", "load", "log", "names", "gave", f"state {name}", f"machines {first}"])

    def answer(self, yard, line):
        """Points 93 and 94, told of a yard."""
        word, *words = line.split(" ")
        numbers = [int(some) for some in words if some.isdigit()]
        load, calendar, turn = yard.load_now(), yard.calendar_now(), yard.now_turn()

        def rows(some):
            return "; ".join(" ".join(str(part) for part in row) for row in some) or "-"

        def with_paper(number, paper):
            return f"{number}; {paper_text(paper)}" if paper else str(number)

        if word == "ask":
            verdict = yard.ask(words[0], *numbers)
            return "kept" if verdict.kept() else f"full {verdict.lack}; " + paper_text((verdict.spans, verdict.names))
        if word == "lose":
            by, gave, paper, more = yard.lose(*numbers)
            return "; ".join([with_paper(f"{by} {more}", paper)] + [rows([row]) for row in gave])
        if word in ["offer", "room"]:
            tell = offer if word == "offer" else room
            told = tell(load, calendar, words[0], max(turn, numbers[0]), *numbers[1:])
            return with_paper(*told[::2])
        return {
            "withdraw": lambda: str(yard.withdraw(words[0])), "pass": lambda: rows(yard.pass_turns(*numbers)),
            "find": lambda: yard.find(*numbers) or "ok", "soonest": lambda: with_paper(
                *soonest(load, calendar, words[0])[::2]),
            "overflow": lambda: str(overflow(load, calendar, spans_in(" ".join(words)))),
            "walk": lambda: rows(faults(load, calendar, plan_in(" ".join(words)))),
            "now": lambda: str(turn), "plan": lambda: rows(yard.plan_now()), "load": lambda: rows(load),
            "log": lambda: rows(yard.log_told()), "names": lambda: " ".join(yard.all_names()) or "-",
            "gave": lambda: rows(yard.gave_ways()), "state": lambda: rows([yard.state_of(words[0])]),
            "machines": lambda: str(calendar.at(*numbers)),
        }[word]()

    def refusal_or(self, tell, *handed_in):
        try:
            return tell(*handed_in)
        except YardError as error:
            return error.__class__

    def test_any_lines(self):
        seen = set()
        for seed in range(12):
            chance = random.Random(9300 + seed)
            desk, other = desk_with("open 2 4 1 3 3"), desk_with("open 2 4 1 3 3")
            yard = Yard(Calendar([(4, 1), (3, 3)], 2))
            for _ in range(150):
                line = self.random_line(chance, yard.now_turn())
                told = self.refusal_or(desk.say, line)
                self.assertEqual(told, self.refusal_or(self.answer, yard, line), line)
                self.assertEqual(told, self.refusal_or(other.say, line), line)
                if isinstance(told, str):
                    self.assertRegex(told, r"\A[a-z0-9 ;-]+\Z")
                seen.add((line.partition(" ")[0], isinstance(told, str)))
            self.assertEqual(load_in(desk.say("load")), yard.load_now())
            self.assertEqual(plan_in(desk.say("plan")), yard.plan_now())
        self.assertEqual(len([word for word, answered in seen if answered]), 18)

    def test_each_desk_has_its_own_yard(self):
        one, other = desk_with("open 1", "ask a 0 3 2"), desk_with("open 1")
        self.assertEqual((one.say("names"), other.say("names")), ("a", "-"))


if __name__ == "__main__":
    unittest.main()
