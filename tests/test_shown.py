"""Faults shown: lines, levels, notes, causes and what was at work."""

import unittest

from faultsheaves.kinds import Kinds
from faultsheaves.ledger import Ledger
from faultsheaves.shown import shown

from ledgers import empty_ledger, some_ledger, told
from parting import grown_ledger


def wanted_lines(ledger, k, level=0):
    """The lines by the words of the document."""
    line = "  " * level + str(k) + " " + ledger.kind(k) + " " + ledger.text(k)
    for note in ledger.notes(k):
        line += ' note "' + "".join("\\" + sign if sign in '"\\' else sign for sign in note) + '"'
    line += "" if ledger.cause(k) is None else " of " + str(ledger.cause(k))
    line += "" if ledger.at_work(k) is None else " while " + str(ledger.at_work(k))
    lines = [line]
    for member in ledger.members(k):
        lines += wanted_lines(ledger, member, level + 1)
    return lines


class Shows(unittest.TestCase):
    def shown(self, ledger, k, *lines):
        """Shown in just these lines, and nothing is changed or made."""
        before = told(ledger)
        with self.subTest(k=k):
            found = shown(ledger, k)
            self.assertIs(found.__class__, str)
            self.assertEqual(found, "\n".join(lines))
            self.assertEqual(told(ledger), before)

    def plain(self, kind="io", text="x"):
        ledger = empty_ledger()
        ledger.plain(kind, text)
        return ledger


class TestLine(Shows):
    def test_a_plain_fault(self):
        for kind in ["fault", "io", "disk", "net", "math", "zero"]:
            for text in ["x", "full", "two words", "0 1 2"]:
                self.shown(self.plain(kind, text), 0, "0 " + kind + " " + text)

    def test_a_text_without_signs(self):
        self.shown(self.plain("io", ""), 0, "0 io ")
        self.shown(self.plain("fault", ""), 0, "0 fault ")

    def test_a_text_without_signs_and_more_behind(self):
        ledger = self.plain("io", "")
        ledger.note(0, "n")
        self.shown(ledger, 0, '0 io  note "n"')
        ledger.blame(0, 0)
        self.shown(ledger, 0, '0 io  note "n" of 0')
        ledger = self.plain("io", "")
        ledger.blame(0, 0)
        self.shown(ledger, 0, "0 io  of 0")

    def test_a_sheaf_without_text(self):
        ledger = self.plain()
        ledger.sheaf("", [0])
        self.shown(ledger, 1, "1 sheaf ", "  0 io x")

    def test_texts_stay_as_they_are(self):
        for text in [" ", "  a ", '"', "\\", 'a "b" \\c', "\\\"", 'note "x"', " of 3", "while 1", "[]{}#~"]:
            self.shown(self.plain("io", text), 0, "0 io " + text)
            ledger = self.plain()
            ledger.sheaf(text, [0])
            self.shown(ledger, 1, "1 sheaf " + text, "  0 io x")

    def test_notes_in_order(self):
        ledger = self.plain()
        line = "0 io x"
        for note in ["b", "a", "b", "", " ", "two words", "c"]:
            ledger.note(0, note)
            line += ' note "' + note + '"'
            self.shown(ledger, 0, line)

    def test_quotes_and_strokes_in_notes(self):
        pairs = [
            ('"', '\\"'), ("\\", "\\\\"), ('\\"', '\\\\\\"'), ('"\\', '\\"\\\\'), ('a"b', 'a\\"b'), ("a\\b", "a\\\\b"),
            ('""', '\\"\\"'), ("\\\\", "\\\\\\\\"), ('say "hi"', 'say \\"hi\\"'), ("\\n", "\\\\n"), ("'", "'"), ("/", "/"),
        ]
        for note, inner in pairs:
            ledger = self.plain()
            ledger.note(0, note)
            self.shown(ledger, 0, '0 io x note "' + inner + '"')
        ledger = self.plain()
        for note, _ in pairs:
            ledger.note(0, note)
        self.shown(ledger, 0, "0 io x" + "".join(' note "' + inner + '"' for _, inner in pairs))

    def test_a_cause(self):
        ledger = self.plain()
        ledger.plain("disk", "y")
        ledger.blame(1, 0)
        self.shown(ledger, 1, "1 disk y of 0")
        ledger.blame(0, 1)
        self.shown(ledger, 0, "0 io x of 1")
        ledger.blame(0, 0)
        self.shown(ledger, 0, "0 io x of 0")
        ledger.blame(0, None)
        self.shown(ledger, 0, "0 io x")

    def test_what_was_at_work(self):
        ledger = self.plain()
        ledger.plain("disk", "y")
        ledger.rise(1, 0)
        self.shown(ledger, 1, "1 disk y while 0")
        self.shown(ledger, 0, "0 io x")
        ledger.rise(0, 1)
        self.shown(ledger, 0, "0 io x while 1")
        self.shown(ledger, 1, "1 disk y")

    def test_all_in_one_line(self):
        ledger = empty_ledger()
        for k in range(12):
            ledger.plain("net", f"text {k}")
        for note in ["first", 'the "second"', ""]:
            ledger.note(11, note)
        ledger.blame(11, 10)
        ledger.rise(11, 4)
        self.shown(ledger, 11, '11 net text 11 note "first" note "the \\"second\\"" note "" of 10 while 4')

    def test_the_order_in_which_things_came_has_no_bearing(self):
        ledger = empty_ledger()
        for k in range(3):
            ledger.plain("net", "")
        ledger.rise(2, 1)
        ledger.blame(2, 0)
        ledger.note(2, "late")
        self.shown(ledger, 2, '2 net  note "late" of 0 while 1')

    def test_a_cause_and_what_was_at_work_that_are_the_same(self):
        ledger = self.plain()
        ledger.plain("disk", "y")
        ledger.rise(1, 0)
        ledger.blame(1, 0)
        self.shown(ledger, 1, "1 disk y of 0 while 0")


class TestLevels(Shows):
    def test_a_sheaf(self):
        ledger = some_ledger()
        self.shown(
            ledger, 3,
            '3 sheaf two note "b" note "a" note "b" of 5 while 1', '  0 disk full note "first"',
            "  1 net gone of 1 while 0",
        )

    def test_sheaves_in_sheaves(self):
        three = ['3 sheaf two note "b" note "a" note "b" of 5 while 1']
        both = ['0 disk full note "first"', "1 net gone of 1 while 0"]
        self.shown(
            some_ledger(), 7,
            "7 sheaf deep", "  6 sheaf ", "    5 zero by nought", "  4 sheaf again", "    " + both[1],
            "    " + three[0], "      " + both[0], "      " + both[1], "    " + both[1], "  2 fault ",
            "  " + three[0], "    " + both[0], "    " + both[1],
        )

    def test_members_in_order_not_by_numbers(self):
        ledger = empty_ledger()
        for k in range(11):
            ledger.plain("io", f"t{k}")
        ledger.sheaf("back", [10, 3, 9, 0])
        self.shown(ledger, 11, "11 sheaf back", "  10 io t10", "  3 io t3", "  9 io t9", "  0 io t0")

    def test_one_member_twice(self):
        ledger = empty_ledger()
        ledger.plain("io", "a")
        ledger.sheaf("s", [0, 0])
        ledger.sheaf("t", [1, 0, 1])
        inner = ["  1 sheaf s", "    0 io a", "    0 io a"]
        self.shown(ledger, 2, "2 sheaf t", *inner, "  0 io a", *inner)

    def test_twelve_deep(self):
        ledger = empty_ledger()
        ledger.plain("io", "leaf")
        for level in range(12):
            ledger.sheaf(f"level {level}", [level])
        lines = ["  " * level + f"{12 - level} sheaf level {11 - level}" for level in range(12)]
        self.shown(ledger, 12, *lines, "  " * 12 + "0 io leaf")

    def test_a_cause_is_not_shown_further(self):
        ledger = empty_ledger()
        ledger.plain("io", "a")
        ledger.sheaf("s", [0])
        ledger.plain("io", "b")
        ledger.blame(2, 1)
        ledger.blame(1, 2)
        self.shown(ledger, 2, "2 io b of 1")
        self.shown(ledger, 1, "1 sheaf s of 2", "  0 io a")

    def test_kinds_of_other_kinds(self):
        ledger = Ledger(Kinds([("a", "fault"), ("abcdefgh", "a")]))
        ledger.plain("abcdefgh", "t")
        ledger.plain("a", "t")
        self.shown(ledger, 0, "0 abcdefgh t")
        self.shown(ledger, 1, "1 a t")

    def test_of_grown_ledgers(self):
        for seed in range(40):
            ledger = grown_ledger(seed)
            ledger.note(seed % 17, 'a "b" \\')
            for k in range(17):
                self.shown(ledger, k, *wanted_lines(ledger, k))


class TestLater(Shows):
    def test_the_same_again(self):
        ledger = some_ledger()
        for k in range(9):
            first = shown(ledger, k)
            for _ in range(3):
                self.assertEqual(shown(ledger, k), first)
            self.assertEqual(shown(ledger.twin(), k), first)

    def test_as_things_are_then(self):
        ledger = empty_ledger()
        for text in ["a", "b", "c"]:
            ledger.plain("io", text)
        ledger.sheaf("s", [0, 1])
        ledger.sheaf("t", [3, 2])
        self.shown(ledger, 4, "4 sheaf t", "  3 sheaf s", "    0 io a", "    1 io b", "  2 io c")
        ledger.note(1, "n")
        self.shown(ledger, 4, "4 sheaf t", "  3 sheaf s", "    0 io a", '    1 io b note "n"', "  2 io c")
        ledger.blame(3, 2)
        ledger.note(3, "m")
        self.shown(ledger, 3, '3 sheaf s note "m" of 2', "  0 io a", '  1 io b note "n"')
        ledger.rise(0, 1)
        self.shown(
            ledger, 4, "4 sheaf t", '  3 sheaf s note "m" of 2', "    0 io a while 1", '    1 io b note "n"', "  2 io c",
        )
        ledger.blame(3, 1)
        ledger.rise(0, 2)
        self.shown(
            ledger, 4, "4 sheaf t", '  3 sheaf s note "m" of 1', "    0 io a while 2", '    1 io b note "n"', "  2 io c",
        )

    def test_what_rises_takes_what_was_at_work_from_others(self):
        ledger = empty_ledger()
        ledger.plain("io", "a")
        ledger.plain("io", "b")
        ledger.rise(0, 1)
        self.shown(ledger, 0, "0 io a while 1")
        ledger.rise(1, 0)
        self.shown(ledger, 0, "0 io a")
        self.shown(ledger, 1, "1 io b while 0")

    def test_a_sheaf_like_another_one(self):
        ledger = some_ledger()
        new = ledger.like(3, [1])
        self.shown(
            ledger, new, f'{new} sheaf two note "b" note "a" note "b" of 5 while 1', "  1 net gone of 1 while 0",
        )
        ledger.note(3, "late")
        self.shown(
            ledger, new, f'{new} sheaf two note "b" note "a" note "b" of 5 while 1', "  1 net gone of 1 while 0",
        )

    def test_a_twin_has_no_bearing(self):
        ledger = some_ledger()
        twin = ledger.twin()
        before = shown(ledger, 7)
        twin.note(0, "late")
        twin.blame(7, 0)
        self.assertEqual(shown(ledger, 7), before)
        self.assertNotEqual(shown(twin, 7), before)


if __name__ == "__main__":
    unittest.main()
