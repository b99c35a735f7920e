"""Kinds: how they are told, which stands under which, and what is refused."""

import unittest

from faultsheaves.errors import NoKind
from faultsheaves.kinds import Kinds

from ledgers import NO_KINDS, NO_TEXTS, PAIRS, some_kinds

NAMES = ["fault", "sheaf", "io", "disk", "net", "math", "zero"]

# For each kind of PAIRS all those under which it stands.
UNDER = {
    "fault": ["fault"], "sheaf": ["sheaf", "fault"], "io": ["io", "fault"],
    "disk": ["disk", "io", "fault"], "net": ["net", "io", "fault"],
    "math": ["math", "fault"], "zero": ["zero", "math", "fault"],
}

BAD_NAMES = [
    "", "abcdefghi", "abcdefghijklmnop", "A", "Ab", "aB", "abcdefgH", "a1", "1", "1a", "a b", " a", "a ", " ",
    "a_b", "_", "a-b", "a.b", "`", "{", "a`", "a{", "@", "[", "fault", "sheaf",
]

GOOD_NAMES = ["a", "z", "az", "abcdefgh", "zzzzzzzz", "faults", "sheaves", "faul", "none", "true"]


class TestNames(unittest.TestCase):
    def test_in_order(self):
        self.assertEqual(some_kinds().names(), NAMES)

    def test_of_no_pairs(self):
        self.assertEqual(Kinds([]).names(), ["fault", "sheaf"])

    def test_not_by_letters(self):
        kinds = Kinds([("z", "fault"), ("a", "fault"), ("m", "a"), ("b", "z")])
        self.assertEqual(kinds.names(), ["fault", "sheaf", "z", "a", "m", "b"])

    def test_good_names(self):
        for name in GOOD_NAMES:
            kinds = Kinds([(name, "fault")])
            self.assertEqual(kinds.names(), ["fault", "sheaf", name])
            self.assertEqual(kinds.above(name), "fault")


class TestIsKind(unittest.TestCase):
    def test_of_each(self):
        for name in NAMES:
            self.assertIs(some_kinds().is_kind(name), True)

    def test_of_anything_else(self):
        kinds = some_kinds()
        for thing in NO_KINDS + [2, 10 ** 50, [[]], ((),), ("io", "fault"), {"fault": "io"}, set()]:
            with self.subTest(thing=thing):
                self.assertIs(kinds.is_kind(thing), False)

    def test_of_no_pairs(self):
        kinds = Kinds([])
        self.assertIs(kinds.is_kind("fault"), True)
        self.assertIs(kinds.is_kind("sheaf"), True)
        self.assertIs(kinds.is_kind("io"), False)


class TestAbove(unittest.TestCase):
    def test_of_each(self):
        kinds = some_kinds()
        self.assertIsNone(kinds.above("fault"))
        self.assertEqual(kinds.above("sheaf"), "fault")
        for name, above in PAIRS:
            self.assertEqual(kinds.above(name), above)

    def test_of_no_pairs(self):
        self.assertIsNone(Kinds([]).above("fault"))
        self.assertEqual(Kinds([]).above("sheaf"), "fault")

    def test_refused(self):
        kinds = some_kinds()
        for thing in NO_KINDS:
            with self.subTest(thing=thing), self.assertRaises(NoKind):
                kinds.above(thing)


class TestStandsUnder(unittest.TestCase):
    def test_each_with_each(self):
        kinds = some_kinds()
        for name in NAMES:
            for other in NAMES:
                with self.subTest(name=name, other=other):
                    self.assertIs(kinds.stands_under(name, other), other in UNDER[name])

    def test_of_no_pairs(self):
        kinds = Kinds([])
        self.assertIs(kinds.stands_under("sheaf", "fault"), True)
        self.assertIs(kinds.stands_under("fault", "sheaf"), False)
        self.assertIs(kinds.stands_under("fault", "fault"), True)
        self.assertIs(kinds.stands_under("sheaf", "sheaf"), True)

    def test_refused_in_either_place(self):
        kinds = some_kinds()
        for thing in NO_KINDS:
            for good in NAMES:
                with self.subTest(thing=thing, good=good):
                    self.assertRaises(NoKind, kinds.stands_under, thing, good)
                    self.assertRaises(NoKind, kinds.stands_under, good, thing)
            self.assertRaises(NoKind, kinds.stands_under, thing, thing)


class TestRefusedPairs(unittest.TestCase):
    def refused(self, pair, ahead=(), behind=()):
        with self.subTest(pair=pair, ahead=ahead, behind=behind):
            pairs = list(ahead) + [pair] + list(behind)
            before = list(pairs)
            self.assertRaises(NoKind, Kinds, pairs)
            self.assertEqual(pairs, before)

    def refused_everywhere(self, pair):
        """As the only pair, the first one, a middle one and the last one."""
        good = [("io", "fault"), ("disk", "io")]
        more = [("math", "fault"), ("zero", "math")]
        self.refused(pair)
        self.refused(pair, behind=more)
        self.refused(pair, ahead=good, behind=more)
        self.refused(pair, ahead=good)

    def test_good_pairs_are_not_refused(self):
        good = [("io", "fault"), ("disk", "io"), ("math", "fault"), ("zero", "math")]
        self.assertEqual(Kinds(good).names(), ["fault", "sheaf", "io", "disk", "math", "zero"])

    def test_names_that_are_none(self):
        for name in BAD_NAMES + NO_TEXTS:
            self.refused_everywhere((name, "fault"))

    def test_names_that_came_ahead(self):
        for name in ["io", "disk"]:
            for above in ["fault", "io"]:
                self.refused((name, above), ahead=[("io", "fault"), ("disk", "io")])
                self.refused((name, above), ahead=[("io", "fault"), ("disk", "io")], behind=[("net", "io")])
        self.refused(("io", "fault"), ahead=[("io", "fault")])

    def test_above_that_is_none(self):
        for above in ["sheaf", "new", "", "none", "Fault", "FAULT", "fault ", " fault", "faults", "f"] + NO_TEXTS:
            self.refused_everywhere(("new", above))

    def test_above_that_comes_behind(self):
        self.refused(("new", "late"), behind=[("late", "fault")])
        self.refused(("new", "late"), ahead=[("io", "fault")], behind=[("net", "io"), ("late", "fault")])

    def test_both_are_none(self):
        for name, above in [("fault", "sheaf"), ("", None), (None, ""), (1, True), ([], {})]:
            self.refused_everywhere((name, above))


class TestListsChangedBehind(unittest.TestCase):
    def test_the_list_handed_in(self):
        pairs = list(PAIRS)
        kinds = Kinds(pairs)
        self.assertEqual(pairs, PAIRS)
        pairs.append(("late", "fault"))
        pairs[0] = ("other", "fault")
        del pairs[1]
        self.assertEqual(kinds.names(), NAMES)
        self.assertIs(kinds.is_kind("late"), False)
        self.assertIs(kinds.is_kind("other"), False)
        self.assertEqual(kinds.above("disk"), "io")
        self.assertIs(kinds.stands_under("disk", "io"), True)

    def test_the_list_told(self):
        kinds = some_kinds()
        names = kinds.names()
        names.append("late")
        names[0] = "other"
        self.assertEqual(kinds.names(), NAMES)
        self.assertIs(kinds.is_kind("late"), False)
        self.assertIs(kinds.is_kind("other"), False)
        self.assertIs(kinds.is_kind("fault"), True)
        names = kinds.names()
        names.clear()
        self.assertEqual(kinds.names(), NAMES)

    def test_two_told_of_the_same(self):
        pairs = list(PAIRS)
        one = Kinds(pairs)
        pairs.append(("late", "zero"))
        two = Kinds(pairs)
        self.assertEqual(one.names(), NAMES)
        self.assertEqual(two.names(), NAMES + ["late"])

    def test_what_is_refused_changes_nothing(self):
        kinds = some_kinds()
        for thing in NO_KINDS:
            self.assertRaises(NoKind, kinds.above, thing)
            self.assertRaises(NoKind, kinds.stands_under, thing, "io")
        self.assertEqual(kinds.names(), NAMES)


if __name__ == "__main__":
    unittest.main()
