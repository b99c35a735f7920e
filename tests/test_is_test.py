"""What is a test, and what is none, by some kinds: asked of anything."""

import unittest

from faultsheaves.fitting import is_test
from faultsheaves.kinds import Kinds

from ledgers import some_kinds
from no_tests import GOOD, NO_TESTS, within

NAMES = ["fault", "sheaf", "io", "disk", "net", "math", "zero"]
TEXTS = ["", "a", " ", "  two  ", "\"\\\"", "kind", "not", "()", "x" * 40, "y z " * 750]
SINGLES = [("kind", name) for name in NAMES] + [(word, text) for word in ["says", "noted"] for text in TEXTS]


def levels(many, inner):
    """Tests that nest so many levels deep, the innermost one counted."""
    found = [inner, inner, inner]
    turning = inner
    for level in range(many - 1):
        found = [("not", found[0]), ("and", found[1], GOOD), ("or", GOOD, found[2])]
        turning = [("or", turning, GOOD), ("not", turning), ("and", GOOD, turning)][level % 3]
    return found + [turning]


def balanced(singles):
    """One test of all these, by `and` and `or` by turns, as flat as it goes."""
    word = "and"
    while len(singles) > 1:
        pairs = [(word, a, b) for a, b in zip(singles[::2], singles[1::2])]
        singles = pairs + ([singles[-1]] if len(singles) % 2 else [])
        word = "or" if word == "and" else "and"
    return singles[0]


class TestIsTest(unittest.TestCase):
    def yes(self, thing, kinds=None):
        with self.subTest(thing=thing):
            self.assertIs(is_test(some_kinds() if kinds is None else kinds, thing), True)

    def no(self, thing, kinds=None):
        with self.subTest(thing=thing):
            self.assertIs(is_test(some_kinds() if kinds is None else kinds, thing), False)

    def test_singles(self):
        for test in SINGLES:
            self.yes(test)

    def test_nested_once_and_more(self):
        for test in SINGLES:
            for outer in within(test):
                self.yes(outer)
                self.yes(("not", outer))
                self.yes(("and", outer, test))
                self.yes(("or", test, outer))

    def test_eight_levels(self):
        for many in range(1, 9):
            for inner in [("kind", "zero"), ("says", ""), ("noted", "x" * 3000)]:
                for test in levels(many, inner):
                    self.yes(test)

    def test_wrong_things_eight_levels_deep(self):
        for many in range(1, 9):
            for inner in [("kind", "nothing"), ("says", None), ("noted",), [], None, ("not",), ("and", GOOD)]:
                for thing in levels(many, inner):
                    self.no(thing)

    def test_forty_tuples(self):
        for many in [2, 3, 19, 20]:
            test = balanced([SINGLES[k % len(SINGLES)] for k in range(many)])
            self.yes(test)
            self.yes(("not", test))
            for place in range(many):
                things = [SINGLES[k % len(SINGLES)] for k in range(many)]
                things[place] = ("kind", "nothing")
                self.no(balanced(things))

    def test_texts_of_3000_signs(self):
        for text in ["x" * 3000, " " * 3000, "\"\\" * 1500]:
            self.yes(("says", text))
            self.yes(("noted", text))
            self.yes(("or", ("says", text), ("not", ("noted", text))))
            self.no(("kind", text))

    def test_no_tests(self):
        for thing in NO_TESTS:
            self.no(thing)

    def test_no_tests_within(self):
        for thing in NO_TESTS:
            for outer in within(thing):
                self.no(outer)

    def test_kinds_of_other_kinds(self):
        other = Kinds([("heat", "fault"), ("io", "heat")])
        for name in ["heat", "io", "fault", "sheaf"]:
            self.yes(("kind", name), other)
            self.yes(("not", ("kind", name)), other)
        for name in ["disk", "net", "math", "zero"]:
            self.yes(("kind", name))
            self.no(("kind", name), other)
            self.no(("and", ("kind", "io"), ("kind", name)), other)
        self.no(("kind", "heat"))
        self.no(("or", ("kind", "heat"), GOOD))

    def test_no_kinds_but_those_two(self):
        none = Kinds([])
        for name in ["fault", "sheaf"]:
            self.yes(("kind", name), none)
        for name in ["io", "disk", "zero", "kind"]:
            self.no(("kind", name), none)

    def test_kinds_called_as_words_of_tests(self):
        words = ["kind", "says", "noted", "not", "and", "or"]
        kinds = Kinds([(word, "fault") for word in words])
        for word in words:
            self.yes(("kind", word), kinds)
            self.yes(("not", ("kind", word)), kinds)
            self.no((word,), kinds)
            self.no(("fault", word), kinds)
        self.no(("not", "kind"), kinds)
        self.no(("and", "kind", "says"), kinds)

    def test_kinds_told_later_to_the_list(self):
        pairs = [("io", "fault")]
        kinds = Kinds(pairs)
        pairs.append(("late", "io"))
        pairs[0] = ("other", "fault")
        self.yes(("kind", "io"), kinds)
        self.no(("kind", "late"), kinds)
        self.no(("kind", "other"), kinds)

    def test_things_looked_at_stay(self):
        thing = ["kind", ["io"], {"a": 1}]
        self.no(("not", thing))
        self.no(thing)
        self.assertEqual(thing, ["kind", ["io"], {"a": 1}])

    def test_asked_again(self):
        kinds = some_kinds()
        for _ in range(3):
            self.yes(("and", GOOD, ("not", ("says", "a"))), kinds)
            self.no(("and", GOOD, ("not", ("says", None))), kinds)
        self.assertEqual(kinds.names(), ["fault", "sheaf", "io", "disk", "net", "math", "zero"])


if __name__ == "__main__":
    unittest.main()
