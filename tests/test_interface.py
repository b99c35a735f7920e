"""The interface: each class, method and function is there, in its own file, with its arguments as written."""

import inspect
import unittest

from faultsheaves import catchers, causes, errors, fitting, parts, programs, programtexts, roads, shown
from faultsheaves.desk import Desk
from faultsheaves.house import House
from faultsheaves.kinds import Kinds
from faultsheaves.ledger import Ledger

METHODS = {
    Kinds: {
        "__init__": ["pairs"], "names": [], "is_kind": ["thing"], "above": ["name"],
        "stands_under": ["name", "other"],
    },
    Ledger: {
        "__init__": ["kinds"], "plain": ["kind", "text"], "sheaf": ["text", "members"],
        "like": ["k", "members"], "many": [], "kind": ["k"], "text": ["k"], "members": ["k"],
        "notes": ["k"], "cause": ["k"], "at_work": ["k"], "note": ["k", "text"],
        "blame": ["k", "j"], "rise": ["k", "j"], "leaves": ["k"], "led": ["k", "way"],
        "kinds": [], "twin": [],
    },
    House: {"__init__": ["kinds", "program"], "run": ["name"], "ledger": [], "split": ["k", "test"], "events": []},
    Desk: {"__init__": [], "say": ["row"]},
}

FUNCTIONS = {
    fitting: {"is_test": ["kinds", "thing"], "fits": ["ledger", "k", "test"]},
    parts: {
        "part": ["ledger", "k", "ways"], "split": ["ledger", "k", "test"], "placed": ["ledger", "k", "test"],
        "alike": ["ledger", "k", "j"],
    },
    causes: {"row": ["ledger", "k"]},
    shown: {"shown": ["ledger", "k"]},
    programs: {"is_program": ["kinds", "thing"]},
    catchers: {
        "first_fit": ["ledger", "k", "tests"], "taken_out": ["ledger", "k", "tests"],
        "come_out": ["ledger", "k", "told", "again", "anew"],
    },
    roads: {"road": ["ledger", "events", "k"]},
    programtexts: {
        "program_text": ["kinds", "program"], "read_program": ["kinds", "text"], "text_of_test": ["kinds", "test"],
        "read_test": ["kinds", "text"],
    },
}

ERRORS = [
    "FaultError", "NoKind", "NoText", "NoFault", "Empty", "NoWay", "NoTest", "NoProgram", "NoBody", "NoRow",
]


class TestInterface(unittest.TestCase):
    def test_methods_stand_in_the_class_itself(self):
        for owner, methods in METHODS.items():
            for name, arguments in methods.items():
                with self.subTest(owner=owner, name=name):
                    self.assertIn(name, vars(owner))
                    given = list(inspect.signature(vars(owner)[name]).parameters)
                    self.assertEqual(given[1:], arguments)

    def test_functions_are_defined_in_their_files(self):
        for module, functions in FUNCTIONS.items():
            for name, arguments in functions.items():
                with self.subTest(module=module, name=name):
                    function = vars(module)[name]
                    self.assertTrue(inspect.isfunction(function))
                    self.assertEqual(function.__module__, module.__name__)
                    self.assertEqual(list(inspect.signature(function).parameters), arguments)

    def test_classes_are_defined_in_their_files(self):
        self.assertEqual(Kinds.__module__, "faultsheaves.kinds")
        self.assertEqual(Ledger.__module__, "faultsheaves.ledger")
        self.assertEqual(House.__module__, "faultsheaves.house")
        self.assertEqual(Desk.__module__, "faultsheaves.desk")
        for name in ERRORS:
            self.assertEqual(getattr(errors, name).__module__, "faultsheaves.errors")


if __name__ == "__main__":
    unittest.main()
