"""The names and arguments of the document's interface."""

import importlib
import inspect
import unittest

FUNCTIONS = {
    "spans": ["is_whole(thing)", "tidy(rows)", "spans_of(turns)", "has_turn(spans, turn)", "turn_count(spans)",
              "turn_count_in(spans, first, last)", "joined(one, other)", "shared(one, other)", "less(one, other)"],
    "calendars": ["calendar_of(tell, turns, rest)"],
    "jobs": ["is_name(thing)", "check_load(load)", "turns_of(job)", "within(job, spans)", "outside(job, spans)",
             "excess(job, spans)", "later(load, by)"],
    "cells": ["cells(load, calendar)", "cells_within(job, some)"],
    "laying": ["laid(load, cells, shares)"],
    "plans": ["faults(load, calendar, plan)", "undone(load, plan)", "last_turn(plan, name)", "until(plan, turn)",
              "since(plan, turn)", "without(plan, name)"],
    "verdicts": ["overflow(load, calendar, spans)", "settled(load, calendar)"],
    "givings": ["lateness(load, calendar)", "fewest(load, calendar)"],
    "offers": ["offer(load, calendar, name, first, work, breadth=1)", "soonest(load, calendar, name)",
               "room(load, calendar, name, first, last, breadth=1)"],
    "lines": ["number_in(word)", "spans_text(spans)", "plan_text(plan)", "load_text(load)", "spans_in(text)",
              "plan_in(text)", "load_in(text)"],
}

CLASSES = {
    "calendars": {"Calendar(rows, rest)": ["rows()", "rest()", "at(turn)", "end()", "over(first, last)",
                                           "over_spans(spans)", "changes(first, last)", "fewer(first, last, many)",
                                           "more(first, last, many)", "widened(many)"]},
    "flows": {"Flow(load, calendar)": ["share(job, cell)", "work_done(job)", "used(cell)", "lacking_by()", "lacking()",
                                       "cut()"]},
    "verdicts": {
        "Verdict(load, calendar, plan)": ["kept()", "word()", "told()", "holds()"],
        "Kept(load, calendar, plan)": ["kept()", "word()", "told()", "holds()"],
        "Full(load, calendar, plan, lack, spans, names)": ["kept()", "word()", "told()", "holds()"],
    },
    "entries": {
        "Entry(name, first, last, work, breadth)": ["left()", "word()", "told()"],
        "Standing(name, first, last, work, breadth)": ["left()", "word()", "told()"],
        "Finished(name, first, last, work, breadth)": ["left()", "word()", "told()"],
        "Withdrawn(name, first, last, work, breadth, left)": ["left()", "word()", "told()"],
    },
    "yard": {"Yard(calendar)": [
        "ask(name, first, last, work, breadth=1)", "withdraw(name)", "pass_turns(many)", "lose(first, last, many)",
        "find(first, last, many)", "now_turn()", "calendar_now()", "plan_now()", "log_told()", "load_now()",
        "state_of(name)", "all_names()", "gave_ways()"]},
    "desk": {"Desk()": ["say(line)"]},
}


def written(name, thing, left_out=0):
    parameters = [str(parameter) for parameter in inspect.signature(thing).parameters.values()]
    return f"{name}({', '.join(parameters[left_out:])})"


class Interface(unittest.TestCase):
    def held(self, file, form):
        name = form.partition("(")[0]
        return name, getattr(importlib.import_module(f"dueyard.{file}"), name)

    def test_functions(self):
        for file, forms in FUNCTIONS.items():
            for form in forms:
                name, function = self.held(file, form)
                self.assertEqual(written(name, function), form)

    def test_classes_and_their_methods(self):
        for file, forms in CLASSES.items():
            for form, methods in forms.items():
                name, kind = self.held(file, form)
                self.assertEqual(written(name, kind), form)
                for method in methods:
                    own = method.partition("(")[0]
                    self.assertEqual(written(own, getattr(kind, own), 1), method, name)


if __name__ == "__main__":
    unittest.main()
