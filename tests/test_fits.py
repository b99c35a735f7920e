"""Which faults fit which tests: plain ones and sheaves, each by its own kind, text and notes."""

import unittest

from faultsheaves.fitting import fits

from ledgers import empty_ledger, some_kinds, some_ledger, told
from parting import SOME_TESTS, grown_ledger

# All kinds under which a kind stands.
UNDER = {
    "fault": ["fault"], "sheaf": ["sheaf", "fault"], "io": ["io", "fault"], "disk": ["disk", "io", "fault"],
    "net": ["net", "io", "fault"], "math": ["math", "fault"], "zero": ["zero", "math", "fault"],
}
TEXTS = ["full", "gone", "", "two", "again", "by nought", "deep", "ful", "full ", " full", "Full", "fulls", "dee"]
NOTES = ["first", "b", "a", "", "firs", "first ", " first", "First", "bb", "ba", "B", "b ", "full", "two"]


def wanted(ledger, k, test):
    """Whether the fault fits, by the words of the document."""
    word, parts = test[0], test[1:]
    if word == "not":
        return not wanted(ledger, k, parts[0])
    if word == "and":
        return all([wanted(ledger, k, part) for part in parts])
    if word == "or":
        return any([wanted(ledger, k, part) for part in parts])
    if word == "kind":
        return parts[0] in UNDER[ledger.kind(k)]
    return parts[0] in ([ledger.text(k)] if word == "says" else ledger.notes(k))


class Fits(unittest.TestCase):
    def fits(self, ledger, k, test, answer):
        with self.subTest(k=k, test=test):
            self.assertIs(fits(ledger, k, test), answer)


class TestSingles(Fits):
    def test_kind(self):
        ledger = some_ledger()
        ledger.plain("math", "")
        for k in range(ledger.many()):
            for name in some_kinds().names():
                self.fits(ledger, k, ("kind", name), name in UNDER[ledger.kind(k)])

    def test_kind_above_beneath_and_beside(self):
        ledger = empty_ledger()
        ledger.plain("io", "")
        for name, answer in [("io", True), ("fault", True), ("disk", False), ("net", False), ("math", False)]:
            self.fits(ledger, 0, ("kind", name), answer)
        ledger.plain("disk", "")
        for name, answer in [("disk", True), ("io", True), ("fault", True), ("net", False), ("sheaf", False)]:
            self.fits(ledger, 1, ("kind", name), answer)
        ledger.plain("fault", "")
        for name, answer in [("fault", True), ("io", False), ("sheaf", False)]:
            self.fits(ledger, 2, ("kind", name), answer)

    def test_kind_of_a_sheaf_is_its_own(self):
        ledger = empty_ledger()
        ledger.plain("disk", "")
        ledger.sheaf("", [0])
        ledger.sheaf("", [1])
        for k in [1, 2]:
            for name, answer in [("sheaf", True), ("fault", True), ("disk", False), ("io", False)]:
                self.fits(ledger, k, ("kind", name), answer)

    def test_says(self):
        ledger = some_ledger()
        for k in range(ledger.many()):
            for text in TEXTS:
                self.fits(ledger, k, ("says", text), text == ledger.text(k))

    def test_text_of_a_sheaf_is_its_own(self):
        ledger = empty_ledger()
        ledger.plain("io", "inner")
        ledger.sheaf("outer", [0])
        self.fits(ledger, 1, ("says", "outer"), True)
        self.fits(ledger, 1, ("says", "inner"), False)
        self.fits(ledger, 0, ("says", "outer"), False)

    def test_says_by_one_sign(self):
        ledger = empty_ledger()
        ledger.plain("io", "twelve signs")
        ledger.sheaf("twelve signs", [0])
        ledger.plain("io", "")
        ledger.sheaf("", [0])
        for k in [0, 1]:
            self.fits(ledger, k, ("says", "twelve signs"), True)
            for at in range(12):
                self.fits(ledger, k, ("says", "twelve signs"[:at] + "." + "twelve signs"[at + 1:]), False)
                self.fits(ledger, k, ("says", "twelve signs"[:at] + "twelve signs"[at + 1:]), False)
        for k in [2, 3]:
            self.fits(ledger, k, ("says", ""), True)
            self.fits(ledger, k, ("says", " "), False)

    def test_noted(self):
        ledger = some_ledger()
        ledger.note(5, "")
        for k in range(ledger.many()):
            for text in NOTES:
                self.fits(ledger, k, ("noted", text), text in ledger.notes(k))

    def test_notes_of_a_sheaf_are_its_own(self):
        ledger = empty_ledger()
        ledger.plain("io", "")
        ledger.sheaf("", [0])
        ledger.note(0, "inner")
        ledger.note(1, "outer")
        for k, note, answer in [(0, "inner", True), (0, "outer", False), (1, "inner", False), (1, "outer", True)]:
            self.fits(ledger, k, ("noted", note), answer)

    def test_noted_by_one_sign(self):
        ledger = empty_ledger()
        ledger.plain("io", "noted")
        ledger.note(0, "a note")
        ledger.note(0, "b note")
        for note, answer in [("a note", True), ("b note", True), ("c note", False), ("a not", False), (" note", False)]:
            self.fits(ledger, 0, ("noted", note), answer)
        for note in ["a noteb note", "note", "a", "", "noted", "a note "]:
            self.fits(ledger, 0, ("noted", note), False)

    def test_first_middle_and_last_note(self):
        ledger = empty_ledger()
        ledger.plain("io", "")
        notes = [f"note {k}" for k in range(20)]
        for note in notes:
            ledger.note(0, note)
        for note in notes:
            self.fits(ledger, 0, ("noted", note), True)
        self.fits(ledger, 0, ("noted", "note 20"), False)

    def test_texts_and_notes_of_3000_signs(self):
        ledger = empty_ledger()
        long = "long " * 600
        ledger.plain("io", long[:40])
        ledger.note(0, long[:40])
        for word in ["says", "noted"]:
            self.fits(ledger, 0, (word, long[:40]), True)
            self.fits(ledger, 0, (word, long), False)
            self.fits(ledger, 0, ("not", (word, long)), True)


class TestNested(Fits):
    YES = ("says", "full")
    NO = ("says", "gone")

    def test_not(self):
        ledger = some_ledger()
        self.fits(ledger, 0, ("not", self.YES), False)
        self.fits(ledger, 0, ("not", self.NO), True)
        self.fits(ledger, 0, ("not", ("not", self.YES)), True)
        self.fits(ledger, 0, ("not", ("not", self.NO)), False)

    def test_and(self):
        ledger = some_ledger()
        for first, second, answer in [
            (self.YES, self.YES, True), (self.YES, self.NO, False), (self.NO, self.YES, False),
            (self.NO, self.NO, False),
        ]:
            self.fits(ledger, 0, ("and", first, second), answer)

    def test_or(self):
        ledger = some_ledger()
        for first, second, answer in [
            (self.YES, self.YES, True), (self.YES, self.NO, True), (self.NO, self.YES, True),
            (self.NO, self.NO, False),
        ]:
            self.fits(ledger, 0, ("or", first, second), answer)

    def test_at_either_side_of_each(self):
        ledger = some_ledger()
        for k in range(ledger.many()):
            for first in SOME_TESTS:
                for second in SOME_TESTS:
                    for test in [("and", first, second), ("or", first, ("not", second))]:
                        self.fits(ledger, k, test, wanted(ledger, k, test))

    def test_eight_levels(self):
        ledger = some_ledger()
        for inner, answer in [(self.YES, True), (self.NO, False)]:
            test = inner
            for _ in range(7):
                test = ("not", test)
            self.fits(ledger, 0, test, not answer)
            for word, other in [("and", self.YES), ("or", self.NO)]:
                ahead = behind = inner
                for _ in range(7):
                    ahead = (word, ahead, other)
                    behind = (word, other, behind)
                self.fits(ledger, 0, ahead, answer)
                self.fits(ledger, 0, behind, answer)

    def test_forty_tuples(self):
        ledger = some_ledger()
        for true_one in range(20):
            tests = [("says", "full") if k == true_one else ("says", f"other {k}") for k in range(20)]
            while len(tests) > 1:
                tests = [("or", *tests[at:at + 2]) if at + 1 < len(tests) else tests[at]
                         for at in range(0, len(tests), 2)]
            self.fits(ledger, 0, ("not", tests[0]), False)
            self.fits(ledger, 1, ("not", tests[0]), True)
            self.fits(ledger, 1, tests[0], False)

    def test_of_grown_ledgers(self):
        for seed in range(10):
            ledger = grown_ledger(seed)
            for k in range(ledger.many()):
                for test in SOME_TESTS:
                    self.fits(ledger, k, test, wanted(ledger, k, test))


class TestLater(Fits):
    def test_notes_that_come_later(self):
        ledger = some_ledger()
        for k in [0, 2, 3, 7]:
            self.fits(ledger, k, ("noted", "late"), False)
            self.fits(ledger, k, ("not", ("noted", "late")), True)
            ledger.note(k, "late")
            self.fits(ledger, k, ("noted", "late"), True)
            self.fits(ledger, k, ("not", ("noted", "late")), False)
        self.fits(ledger, 1, ("noted", "late"), False)

    def test_of_a_ledger_and_its_twin(self):
        ledger = some_ledger()
        twin = ledger.twin()
        ledger.note(3, "here")
        twin.note(3, "there")
        for of, note, answer in [(ledger, "here", True), (ledger, "there", False), (twin, "here", False),
                                 (twin, "there", True), (ledger, "a", True), (twin, "a", True)]:
            self.fits(of, 3, ("noted", note), answer)
        twin.plain("net", "late")
        ledger.plain("disk", "other")
        self.fits(twin, 9, ("kind", "net"), True)
        self.fits(ledger, 9, ("kind", "net"), False)

    def test_causes_have_no_bearing(self):
        ledger = empty_ledger()
        ledger.plain("disk", "cause")
        ledger.note(0, "noted")
        ledger.plain("math", "")
        ledger.blame(1, 0)
        ledger.rise(1, 0)
        for test in [("kind", "disk"), ("says", "cause"), ("noted", "noted")]:
            self.fits(ledger, 1, test, False)

    def test_new_members_of_likes(self):
        ledger = some_ledger()
        new = ledger.like(3, [8])
        for test in [("kind", "sheaf"), ("says", "two"), ("noted", "a"), ("noted", "b")]:
            self.fits(ledger, new, test, True)
        ledger.note(3, "late")
        self.fits(ledger, new, ("noted", "late"), False)

    def test_nothing_is_changed_or_made(self):
        ledger = some_ledger()
        before = told(ledger)
        for k in range(9):
            for test in SOME_TESTS:
                fits(ledger, k, test)
        self.assertEqual(ledger.many(), 9)
        self.assertEqual(told(ledger), before)
        self.assertEqual(ledger.kinds().names(), some_kinds().names())


if __name__ == "__main__":
    unittest.main()
