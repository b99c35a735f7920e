"""Which faults are alike."""

import unittest

from faultsheaves.parts import alike, part, split

from ledgers import empty_ledger, some_ledger, told
from parting import grown_ledger

TEXT, NOTES, CAUSE, AT_WORK, MEMBERS = range(5)


def plain_ledger():
    """Six plain faults, each two of them of the same kind and text."""
    ledger = empty_ledger()
    for text in ["a", "b", "c"]:
        ledger.plain("io", text)
        ledger.plain("io", text)
    return ledger


def made(ledger, text, notes, cause, at_work, members):
    """A new sheaf of just these."""
    k = ledger.sheaf(text, members)
    for note in notes:
        ledger.note(k, note)
    ledger.blame(k, cause)
    ledger.rise(k, at_work)
    return k


def nested(ledger, *told_inner):
    """Three sheaves around one of these, all but for it the same each time."""
    inner = made(ledger, *told_inner)
    middle = made(ledger, "middle", ["m"], None, 1, [0, inner, inner])
    return made(ledger, "outer", [], 0, None, [middle, 2, inner])


# What a sheaf has, and other things of which it may have one instead.
SAME = ["text", ["n", "o", "n"], 0, 1, [0, 2, 0]]
OTHERS = [
    (TEXT, ["", "texts", "tex", "Text", "text ", "o"]),
    (NOTES, [[], ["n"], ["n", "o"], ["o", "n"], ["n", "n", "o"], ["o", "n", "n"], ["n", "o", "N"],
             ["n", "o", "n", "n"], ["n", "o", "n", ""], ["non"], ["", "n", "o", "n"]]),
    (CAUSE, [None, 1, 2, 3]),
    (AT_WORK, [None, 0, 2, 3]),
    (MEMBERS, [[0], [0, 2], [2, 0], [0, 0, 2], [0, 2, 0, 0], [0, 2, 1], [1, 2, 0], [0, 3, 0], [0, 2, 0, 2], [2, 2, 0],
               [0, 2, 4]]),
]


class Alike(unittest.TestCase):
    def alike(self, ledger, k, j, answer):
        """Told so of both, whichever is told first, and nothing is changed or made."""
        before = told(ledger)
        with self.subTest(k=k, j=j):
            self.assertIs(alike(ledger, k, j), answer)
            self.assertIs(alike(ledger, j, k), answer)
            self.assertEqual(told(ledger), before)


class TestAlike(Alike):
    def test_a_fault_and_itself(self):
        for ledger in [some_ledger(), grown_ledger(1), grown_ledger(2)]:
            for k in range(ledger.many()):
                self.alike(ledger, k, k, True)

    def test_plain_faults_only_themselves(self):
        ledger = plain_ledger()
        for k in range(6):
            for j in range(6):
                self.alike(ledger, k, j, k == j)

    def test_plain_faults_of_the_same_notes_and_cause(self):
        ledger = plain_ledger()
        for k in [0, 1]:
            ledger.note(k, "n")
            ledger.blame(k, 2)
            ledger.rise(k, 3)
        self.alike(ledger, 0, 1, False)

    def test_a_plain_fault_and_a_sheaf(self):
        ledger = plain_ledger()
        for sheaf in [ledger.sheaf("a", [0]), ledger.sheaf("a", [0, 0]), ledger.sheaf("", [1])]:
            for k in [0, 1, 2]:
                self.alike(ledger, k, sheaf, False)

    def test_sheaves_of_the_same(self):
        ledger = plain_ledger()
        first, second, third = [made(ledger, *SAME) for _ in range(3)]
        self.alike(ledger, first, second, True)
        self.alike(ledger, second, third, True)
        self.alike(ledger, first, third, True)

    def test_sheaves_that_have_nothing(self):
        ledger = plain_ledger()
        first = ledger.sheaf("", [0])
        second = ledger.sheaf("", [0])
        self.alike(ledger, first, second, True)
        self.alike(ledger, first, ledger.sheaf("", [1]), False)

    def test_sheaves_with_one_difference(self):
        for at, things in OTHERS:
            for thing in things:
                ledger = plain_ledger()
                first = made(ledger, *SAME)
                told_other = list(SAME)
                told_other[at] = thing
                second = made(ledger, *told_other)
                with self.subTest(at=at, thing=thing):
                    self.alike(ledger, first, second, False)
                    self.alike(ledger, first, made(ledger, *SAME), True)

    def test_nested_sheaves_with_one_difference_within(self):
        for at, things in OTHERS:
            for thing in things:
                ledger = plain_ledger()
                first = nested(ledger, *SAME)
                told_other = list(SAME)
                told_other[at] = thing
                second = nested(ledger, *told_other)
                with self.subTest(at=at, thing=thing):
                    self.alike(ledger, first, second, False)
                    self.alike(ledger, first, nested(ledger, *SAME), True)

    def test_nothing_against_something(self):
        for at, thing in [(NOTES, [""]), (CAUSE, 0), (AT_WORK, 0), (TEXT, " ")]:
            ledger = plain_ledger()
            bare = ["", [], None, None, [0, 1]]
            first = made(ledger, *bare)
            bare[at] = thing
            self.alike(ledger, first, made(ledger, *bare), False)

    def test_cause_and_at_work_turned_about(self):
        ledger = plain_ledger()
        first = made(ledger, "", [], 2, 3, [0])
        self.alike(ledger, first, made(ledger, "", [], 3, 2, [0]), False)
        second = made(ledger, "", [], 2, None, [0])
        self.alike(ledger, second, made(ledger, "", [], None, 2, [0]), False)

    def test_causes_that_are_but_alike(self):
        ledger = plain_ledger()
        causes = [made(ledger, *SAME), made(ledger, *SAME)]
        first, second = [made(ledger, "", [], cause, None, [0]) for cause in causes]
        self.alike(ledger, causes[0], causes[1], True)
        self.alike(ledger, first, second, False)
        third, last = [made(ledger, "", [], None, cause, [0]) for cause in causes]
        self.alike(ledger, third, last, False)

    def test_sheaves_that_are_their_own_cause(self):
        ledger = plain_ledger()
        first, second = ledger.sheaf("", [0]), ledger.sheaf("", [0])
        ledger.blame(first, first)
        ledger.blame(second, second)
        self.alike(ledger, first, second, False)
        ledger.blame(second, first)
        self.alike(ledger, first, second, True)

    def test_members_alike_place_by_place(self):
        ledger = plain_ledger()
        inner, same, other = made(ledger, *SAME), made(ledger, *SAME), made(ledger, "o", [], 0, 1, [0])
        first = ledger.sheaf("s", [inner, other, 0])
        for members, answer in [
            ([same, other, 0], True), ([inner, other, 0], True), ([other, same, 0], False), ([same, other, 1], False),
            ([same, same, 0], False), ([same, other], False), ([same, other, 0, 0], False), ([other, other, 0], False),
            ([0, other, same], False),
        ]:
            self.alike(ledger, first, ledger.sheaf("s", members), answer)

    def test_the_same_leaves_in_another_nest(self):
        ledger = plain_ledger()
        two = ledger.sheaf("", [0, 2])
        nests = [
            ledger.sheaf("", [0, 2, 4]), ledger.sheaf("", [two, 4]), ledger.sheaf("", [0, ledger.sheaf("", [2, 4])]),
            ledger.sheaf("", [ledger.sheaf("", [0, 2, 4])]), ledger.sheaf("", [ledger.sheaf("", [0]), 2, 4]),
        ]
        for k in nests:
            for j in nests:
                self.alike(ledger, k, j, k == j)
        self.alike(ledger, two, ledger.sheaf("", [two]), False)

    def test_likes_and_parts(self):
        ledger = some_ledger()
        for k in [3, 4, 6, 7]:
            self.alike(ledger, k, ledger.like(k, ledger.members(k)), True)
            self.alike(ledger, k, ledger.like(k, ledger.members(k) + [0]), False)
        ways = [(0, 0), (1, 1, 0), (3, 1)]
        self.alike(ledger, part(ledger, 7, ways), part(ledger, 7, ways), True)
        self.alike(ledger, part(ledger, 7, ways), part(ledger, 7, ways[1:]), False)
        fit, left = split(ledger, 3, ("kind", "disk"))
        self.alike(ledger, fit, left, False)
        self.alike(ledger, fit, part(ledger, 3, [(0,)]), True)

    def test_by_what_they_have_then(self):
        ledger = plain_ledger()
        first, second = made(ledger, *SAME), made(ledger, *SAME)
        outer, same = ledger.sheaf("", [first]), ledger.sheaf("", [second])
        self.alike(ledger, outer, same, True)
        for k, answer in [(first, False), (second, True)]:
            ledger.note(k, "late")
            self.alike(ledger, outer, same, answer)
        for k, answer in [(first, False), (second, True)]:
            ledger.blame(k, 4)
            self.alike(ledger, first, second, answer)
        for k, answer in [(first, False), (second, True)]:
            ledger.rise(k, 5)
            self.alike(ledger, outer, same, answer)

    def test_notes_of_plain_members_have_no_bearing(self):
        ledger = plain_ledger()
        first, second = ledger.sheaf("", [0, 2]), ledger.sheaf("", [0, 2])
        ledger.note(0, "late")
        self.alike(ledger, first, second, True)

    def test_of_a_twin(self):
        ledger = plain_ledger()
        first, second = made(ledger, *SAME), made(ledger, *SAME)
        twin = ledger.twin()
        twin.note(first, "late")
        self.alike(ledger, first, second, True)
        self.alike(twin, first, second, False)


if __name__ == "__main__":
    unittest.main()
