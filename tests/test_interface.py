"""The interface of all modules at once: its names, its arguments by places and by names, and what is told of all."""

import copy
import importlib
import itertools
import unittest

from tests.helpers import Checked, kinds
from timesrow import errors
from timesrow.kept import KeptRow
from timesrow.rules.rounds import round_from
from timesrow.rules.steps import jumped, next_of, row_from, rule_of_steps, rule_shown
from timesrow.told.bounds import bounds_that_fit
from timesrow.told.fits import number_behind, rules_that_fit, times_that_fit
from timesrow.two.alike import renaming, renaming_shown
from timesrow.two.woven import unwoven, woven
from timesrow.whole import Desk

RULE = (5, 3, 16)
OTHER = (2, 0, 16)
ROW = (7, 6, 1)
# Each function by its module, with its arguments by their names in their order, and what it tells of them.
FUNCTIONS = {
    "timesrow.rules.steps": {
        "read_rule": ({"text": "5 3 16"}, RULE),
        "rule_shown": ({"rule": RULE}, "5 3 16"),
        "next_of": ({"rule": RULE, "number": 7}, 6),
        "row_from": ({"rule": RULE, "start": 7, "many": 3}, ROW),
        "jumped": ({"rule": RULE, "start": 1, "steps": -2}, 7),
        "rule_of_steps": ({"rule": RULE, "steps": 2}, (9, 2, 16)),
        "before": ({"rule": RULE, "number": 6}, (1, 7))},
    "timesrow.rules.rounds": {
        "round_from": ({"rule": OTHER, "start": 1}, (4, 1)),
        "all_rounds": ({"rule": RULE}, ((16, 1),)),
        "steps_to": ({"rule": RULE, "start": 7, "number": 1}, 2),
        "is_one_round": ({"rule": RULE}, True)},
    "timesrow.told.fits": {
        "times_that_fit": ({"row": ROW, "bound": 16}, (5, 16)),
        "rules_that_fit": ({"row": ROW, "bound": 16, "many": 3}, [RULE]),
        "settled_by": ({"row": ROW, "bound": 16}, 3),
        "number_behind": ({"row": ROW, "bound": 16}, 8)},
    "timesrow.told.bounds": {
        "bounds_that_fit": ({"row": (7, 6, 1, 8), "most": 40}, (16, 32)),
        "divided_by_all": ({"row": (7, 6, 1, 8)}, 32)},
    "timesrow.told.parts": {
        "parts_from": ({"rule": RULE, "start": 7, "many": 3, "part": 4}, (1, 1, 0)),
        "starts_that_fit": ({"rule": RULE, "seen": (1, 1), "part": 4}, (4, 7)),
        "settled_at": ({"rule": RULE, "start": 7, "part": 4}, 3),
        "always_settled": ({"rule": RULE, "part": 4}, 3),
        "rules_by_parts": ({"bound": 2, "seen": (0, 1), "part": 1}, (2, (0, 1, 0)))},
    "timesrow.two.woven": {
        "woven": ({"one": RULE, "start": 7, "other": (2, 0, 12), "begin": 1, "many": 5}, (7, 1, 6, 2, 1)),
        "unwoven": ({"row": (7, 1, 6, 2, 1, 4), "bound": 16, "other_bound": 12}, ((5, 16), (2, 12))),
        "summed_by": ({"one": RULE, "start": 7, "other": OTHER, "begin": 1}, (7, 10, 13)),
        "round_of_two": ({"one": RULE, "start": 7, "other": OTHER, "begin": 1}, (4, 16))},
    "timesrow.two.alike": {
        "renaming": ({"one": RULE, "other": (5, 7, 16)}, (1, 3)),
        "renaming_shown": ({"one": RULE, "other": (5, 7, 16), "pair": (1, 7)}, True)},
}
# Each class with the names of what makes it, and of what its methods take.
CLASSES = {
    "timesrow.kept": {"KeptRow": {"": ["bound"], "see": ["number"], "take_back": [], "row_now": [], "fit_now": [],
                                  "guess_now": []}},
    "timesrow.whole": {"Desk": {"": [], "ask": ["line"]}},
}


def all_functions():
    """Each function, what it is handed by names, and what it tells."""
    for module, functions in FUNCTIONS.items():
        for name, (handed, told) in functions.items():
            yield getattr(importlib.import_module(module), name), handed, told


class Names(Checked):
    def test_functions_take_just_these_arguments(self):
        for function, handed, told in all_functions():
            self.assert_names({function: list(handed)})

    def test_classes_and_their_methods(self):
        for module, classes in CLASSES.items():
            for name, methods in classes.items():
                kind = getattr(importlib.import_module(module), name)
                self.assert_names({kind: methods[""]})
                for method in methods.keys() - {""}:
                    # In the class itself, not only in one above it.
                    self.assert_names({vars(kind)[method]: ["self"] + methods[method]})

    def test_each_stands_in_the_module_that_is_named(self):
        for module, names in itertools.chain(FUNCTIONS.items(), CLASSES.items()):
            for name in names:
                self.assertEqual(getattr(importlib.import_module(module), name).__module__, module)

    def test_refusals(self):
        for name in ("RowError", "NoRule", "NoBack", "NoFit", "NoAsk", "NoNumber"):
            self.assertTrue(issubclass(getattr(errors, name), ValueError))
        self.assertEqual(errors.NoNumber(number=3).number, 3)


class Arguments(Checked):
    def test_by_places(self):
        for function, handed, told in all_functions():
            self.assert_told(function(*handed.values()), told)

    def test_by_names_in_any_order(self):
        for function, handed, told in all_functions():
            for names in itertools.permutations(handed):
                self.assert_told(function(**{name: handed[name] for name in names}), told)

    def test_the_first_by_places_and_the_rest_by_names(self):
        for function, handed, told in all_functions():
            for many in range(len(handed)):
                rest = {name: handed[name] for name in list(handed)[many:]}
                self.assert_told(function(*list(handed.values())[:many], **rest), told)


class Told(Checked):
    def test_nothing_asked_later_changes_what_is_told(self):
        asked = list(all_functions())
        handed_before = copy.deepcopy([handed for function, handed, told in asked])
        held = [function(**handed) for function, handed, told in asked]
        for function, handed, told in reversed(asked):
            function(**handed)
        self.assert_told(held, [told for function, handed, told in asked])
        self.assertEqual(kinds([list(handed.values()) for function, handed, told in asked]),
                         kinds([list(handed.values()) for handed in handed_before]))

    def test_told_lists_that_are_changed_change_nothing(self):
        for row, told in ((ROW, [RULE]), ((0, 2, 3), []), ((3, 3), [(0, 3, 16), (1, 0, 16)])):
            for time in range(3):
                rules = rules_that_fit(row, 16, 2)
                self.assert_told(rules, told)
                rules.append("more")
                rules[0] = "other"

    def test_each_one_beside_kept_rows_and_desks(self):
        kept, desk = KeptRow(16), Desk()
        desk.ask("rule 5 3 16")
        for place, (function, handed, told) in enumerate(all_functions()):
            kept.see(3)
            desk.ask("seen 3")
            self.assert_told(function(**handed), told)
            self.assert_told(kept.row_now(), (3,) * (place + 1))
            self.assert_told(desk.ask("show"), ["5 3 16"])

    def test_what_is_told_is_handed_on(self):
        rule = rules_that_fit(row_from(RULE, 7, 5), 16, 1)[0]
        self.assert_told(rule, RULE)
        self.assert_told(jumped(rule_of_steps(rule, 3), jumped(rule, 7, -3), 1), 7)
        self.assert_told(times_that_fit(woven(rule, 7, OTHER, 1, 6)[::2], bounds_that_fit(ROW, 16)[-1]), (5, 16))
        self.assert_told(unwoven(woven(rule, 7, rule, next_of(rule, 7), 8), 16, 16), ((5, 16), (5, 16)))
        self.assert_told(renaming_shown(rule, (5, 7, 16), renaming(rule, (5, 7, 16))), True)
        desk = Desk()
        desk.ask("rule " + rule_shown(rule))
        kept = KeptRow(rule[2])
        for word in desk.ask("row 7 4")[0].split(" "):
            desk.ask("seen " + word)
            kept.see(int(word))
        self.assert_told(desk.ask("guess"), [str(kept.guess_now())])
        kept.see(kept.guess_now())
        self.assert_told(kept.row_now(), row_from(rule, 7, 5))
        self.assert_told(number_behind(kept.row_now(), 16), kept.guess_now())
        self.assert_told(desk.ask("round 7"), ["{} {}".format(*round_from(rule, 7))])


if __name__ == "__main__":
    unittest.main()
