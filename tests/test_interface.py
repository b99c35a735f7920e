"""The interface: each class and method is there, in its own file, with its arguments as written."""

import inspect
import unittest

from faultsheaves import errors
from faultsheaves.kinds import Kinds
from faultsheaves.ledger import Ledger

METHODS = {
    Kinds: {
        "__init__": ["pairs"], "names": [], "is_kind": ["thing"], "above": ["name"],
        "stands_under": ["name", "other"],
    },
    Ledger: {
        "__init__": ["kinds"], "plain": ["kind", "text"], "sheaf": ["text", "members"],
        "like": ["k", "members"], "many": [], "kind": ["k"], "text": ["k"], "members": ["k"],
        "notes": ["k"], "cause": ["k"], "at_work": ["k"], "note": ["k", "text"],
        "blame": ["k", "j"], "rise": ["k", "j"], "leaves": ["k"], "led": ["k", "way"],
        "kinds": [], "twin": [],
    },
}

ERRORS = [
    "FaultError", "NoKind", "NoText", "NoFault", "Empty", "NoWay", "NoTest", "NoProgram", "NoBody", "NoRow",
]


class TestInterface(unittest.TestCase):
    def test_methods_stand_in_the_class_itself(self):
        for owner, methods in METHODS.items():
            for name, arguments in methods.items():
                with self.subTest(owner=owner, name=name):
                    self.assertIn(name, vars(owner))
                    given = list(inspect.signature(vars(owner)[name]).parameters)
                    self.assertEqual(given[1:], arguments)

    def test_classes_are_defined_in_their_files(self):
        self.assertEqual(Kinds.__module__, "faultsheaves.kinds")
        self.assertEqual(Ledger.__module__, "faultsheaves.ledger")
        for name in ERRORS:
            self.assertEqual(getattr(errors, name).__module__, "faultsheaves.errors")


if __name__ == "__main__":
    unittest.main()
