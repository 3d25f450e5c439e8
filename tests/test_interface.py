"""Everything that the interface lists exists under its name, and takes as many arguments by place."""

import importlib
import inspect
import unittest

FUNCTIONS = {
    "names": {"is_port": 1},
    "nets": {"is_part": 2, "is_net": 1, "right_net": 1, "ports_of": 1, "ports_in": 1, "hidden_in": 1},
    "netlines": {"net_lines": 1, "read_net": 1},
    "flatting": {"flat_of": 1},
    "manners": {"lets": 3, "held_behind": 3},
    "moments": {"first_stand": 1, "is_stand": 2, "is_moment": 2, "led": 3, "moments_at": 2},
    "walks": {"stands_met": 1, "after": 3, "seen_next": 2, "has_row": 2, "breaks": 2, "walk_for": 2},
    "machines": {"is_machine": 1, "moves_from": 2, "machine_has": 2},
    "partmachines": {"part_machine": 2},
    "joining": {"joined": 2, "hidden": 2},
    "netmachines": {"machine_of": 1},
    "tables": {"is_table": 1, "stands_behind": 3, "goes_on": 2, "table_has": 2, "table_breaks": 2},
    "tabling": {"table_of": 1, "table_by": 1, "tables_joined": 2, "table_hidden": 2},
    "tablelines": {"table_lines": 1, "read_table": 1},
    "likechecker": {"lets_alike": 3},
    "likening": {"likeness": 2},
    "leastchecker": {"lets_least": 2},
    "leasts": {"least_table": 1, "least_paper": 1},
    "wishchecker": {"lets_wish": 3},
    "wishing": {"wish_paper": 2},
    "building": {"net_for": 2},
    "putting": {"beside": 2, "hidden_net": 2, "called": 2},
}
CLASSES = {
    "watching": {"Watch": (1, {"may_come": 0, "saw": 1, "back": 0, "row_seen": 0, "stands_many": 0})},
    "desk": {"Desk": (0, {"say": 1})},
}
ERRORS = {
    "MannerError": 1, "NoNet": 2, "NoText": 1, "NoMoment": 1, "TooMany": 1, "NoJoin": 1, "NoAlike": 2, "NoLeast": 2, "NoWish": 2,
    "NoTable": 1, "NoBack": 1, "NoRow": 1,
}


class InterfaceTest(unittest.TestCase):
    def takes(self, thing, many):
        """It can be called with so many arguments by place."""
        inspect.signature(thing).bind(*[None] * many)
        with self.assertRaises(TypeError):
            inspect.signature(thing).bind(*[None] * (many + 1))

    def module(self, name):
        return importlib.import_module("mannerports." + name)

    def test_functions(self):
        for module, functions in FUNCTIONS.items():
            for name, many in functions.items():
                self.takes(getattr(self.module(module), name), many)

    def test_classes(self):
        for module, classes in CLASSES.items():
            for name, (many, methods) in classes.items():
                found = getattr(self.module(module), name)
                self.takes(found, many)
                for method, takes in methods.items():
                    self.takes(getattr(found, method), takes + 1)

    def test_errors(self):
        for name, many in ERRORS.items():
            found = getattr(self.module("errors"), name)
            self.assertTrue(issubclass(found, ValueError))
            self.takes(found, many)


if __name__ == "__main__":
    unittest.main()
