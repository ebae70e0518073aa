"""A desk: a yard is told lines and answers them with texts."""

from dueyard.calendars import Calendar
from dueyard.errors import NoLine
from dueyard.lines import load_text, number_in, plan_in, plan_text, rows_text, spans_in, spans_text, words_text
from dueyard.offers import offer, room, soonest
from dueyard.plans import faults
from dueyard.searches import paper_of
from dueyard.verdicts import overflow
from dueyard.yard import Yard


def with_paper(number, paper):
    spans = spans_text(paper[0])
    names = words_text(paper[1])
    return f"{number}; {spans}; {names}"


def breadth_at(numbers, place):
    return numbers[place] if place < len(numbers) else 1


def ask_answer(yard, name, numbers):
    verdict = yard.ask(name, numbers[0], numbers[1], numbers[2], breadth_at(numbers, 3))
    if verdict.kept():
        return "kept"
    lack = verdict.lack
    return with_paper(f"full {lack}", paper_of(verdict))


def withdraw_answer(yard, name, numbers):
    return str(yard.withdraw(name))


def pass_answer(yard, name, numbers):
    return plan_text(yard.pass_turns(numbers[0]))


def find_answer(yard, name, numbers):
    yard.find(numbers[0], numbers[1], numbers[2])
    return "ok"


def lose_answer(yard, name, numbers):
    by, gave, paper, more = yard.lose(numbers[0], numbers[1], numbers[2])
    if by == 0:
        return "0 0"
    return "; ".join([with_paper(f"{by} {more}", paper)] + [words_text(row) for row in gave])


def offer_answer(yard, name, numbers):
    first = max(numbers[0], yard.now_turn())
    load = yard.load_now()
    last, plan, paper = offer(load, yard.calendar_now(), name, first, numbers[1], breadth_at(numbers, 2))
    return with_paper(last, paper)


def room_answer(yard, name, numbers):
    first = max(numbers[0], yard.now_turn())
    load = yard.load_now()
    work, plan, paper = room(load, yard.calendar_now(), name, first, numbers[1], breadth_at(numbers, 2))
    return str(work) if paper is None else with_paper(work, paper)


def soonest_answer(yard, name, numbers):
    last, plan, paper = soonest(yard.load_now(), yard.calendar_now(), name)
    return with_paper(last, paper)


def now_answer(yard, name, numbers):
    return str(yard.now_turn())


def plan_answer(yard, name, numbers):
    return plan_text(yard.plan_now())


def load_answer(yard, name, numbers):
    return load_text(yard.load_now())


def log_answer(yard, name, numbers):
    return plan_text(yard.log_told())


def names_answer(yard, name, numbers):
    return words_text(yard.all_names())


def gave_answer(yard, name, numbers):
    return rows_text(yard.gave_ways())


def state_answer(yard, name, numbers):
    return words_text(yard.state_of(name))


def machines_answer(yard, name, numbers):
    return str(yard.calendar_now().at(numbers[0]))


# Behind the first word: how many words are a name, how many at least and at most are figures.
FORMS = {
    "ask": (1, 3, 4, ask_answer),
    "withdraw": (1, 0, 0, withdraw_answer),
    "pass": (0, 1, 1, pass_answer),
    "find": (0, 3, 3, find_answer),
    "lose": (0, 3, 3, lose_answer),
    "offer": (1, 2, 3, offer_answer),
    "room": (1, 2, 3, room_answer),
    "soonest": (1, 0, 0, soonest_answer),
    "now": (0, 0, 0, now_answer),
    "plan": (0, 0, 0, plan_answer),
    "load": (0, 0, 0, load_answer),
    "log": (0, 0, 0, log_answer),
    "names": (0, 0, 0, names_answer),
    "gave": (0, 0, 0, gave_answer),
    "state": (1, 0, 0, state_answer),
    "machines": (0, 1, 1, machines_answer),
}


def overflow_answer(yard, text):
    spans = spans_in(text)
    return str(overflow(yard.load_now(), yard.calendar_now(), spans))


def walk_answer(yard, text):
    plan = plan_in(text)
    return rows_text(faults(yard.load_now(), yard.calendar_now(), plan))


TEXT_FORMS = {"overflow": overflow_answer, "walk": walk_answer}


def words_answer(yard, words):
    if words[0] not in FORMS:
        raise NoLine("no line begins with this word")
    names, least, most, answer = FORMS[words[0]]
    ahead = 1 + names
    if not ahead + least <= len(words) <= ahead + most:
        raise NoLine("the line has words more or fewer")
    numbers = [number_in(word) for word in words[ahead:]]
    # Where no word is a name, the answer doesn't look at it.
    return answer(yard, words[ahead - 1], numbers)


def calendar_in(words):
    numbers = [number_in(word) for word in words]
    if len(numbers) % 2 == 0:
        raise NoLine("a calendar is its rest, and pairs of turns and machines")
    rows = [(numbers[place], numbers[place + 1]) for place in range(1, len(numbers), 2)]
    return Calendar(rows, numbers[0])


class Desk:
    def __init__(self):
        self.yard = None

    def say(self, line):
        word, blank, text = line.partition(" ")
        words = line.split(" ")
        if word == "open":
            self.yard = Yard(calendar_in(words[1:]))
            return "ok"
        if self.yard is None:
            raise NoLine("the desk has no yard")
        if word in TEXT_FORMS:
            return TEXT_FORMS[word](self.yard, text)
        return words_answer(self.yard, words)
