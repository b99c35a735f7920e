"""Desks: rows, and what is answered to them."""

import unittest

from faultsheaves.desk import Desk
from faultsheaves.errors import NoBody, NoFault, NoKind, NoRow, NoTest, NoText

from ledgers import NO_TEXTS, PAIRS
from parting import Dice

LETTERS = "abcdefghijklmnopqrstuvwxyz"

# A program whose body `two` lets a sheaf rise, `one` a plain fault, and so on.
PROGRAM = "\n".join([
    "body none", "body hello", "  say hello", "  say ", "  say  two  words ", "body seven", "  answer 7", "body less", "  answer -12",
    "body one", "  raise disk full", "body two", "  gather both", "    each", "      say gathering", "      raise disk full", "    each",
    "      raise net gone", "body caught", "  room hall out", "    call two", "  catch kind disk", "    note \"seen\"",
    "    raiseof zero by it", "  leaving", "    say bye", "body off", "  room attic whole", "    call one", "  leaving", "    answer 5", "",
])


def desk_of(program=PROGRAM, pairs=tuple(PAIRS)):
    """A desk that was told these kinds and this program."""
    desk = Desk()
    for name, above in pairs:
        desk.say(f"kind {name} {above}")
    if program is not None:
        desk.say("program\n" + program)
    return desk


def answers(desk):
    """All that a desk tells by rows that change nothing."""
    found = [desk.say("said")]
    at = 0
    while True:
        try:
            found.append(desk.say(f"show {at}"))
        except NoFault:
            return found
        try:
            found.append(desk.say(f"road {at}"))
        except NoFault:
            found.append("a sheaf")
        at += 1


class Desks(unittest.TestCase):
    def says(self, desk, row, answer):
        with self.subTest(row=row):
            found = desk.say(row)
            self.assertIs(found.__class__, str)
            self.assertEqual(found, answer)

    def refused(self, desk, row, error):
        """Refused by just this class, and the desk tells the same as ever."""
        before = answers(desk)
        with self.subTest(row=row):
            with self.assertRaises(ValueError) as caught:
                desk.say(row)
            self.assertIs(caught.exception.__class__, error)
            self.assertEqual(answers(desk), before)

    def rose(self, desk, name):
        """Run this body, from which a fault rises: its number, as it is written."""
        words = desk.say("run " + name).split(" ")
        self.assertEqual((len(words), words[0]), (2, "rose"))
        self.assertTrue(words[1].isdigit())
        return words[1]

    def lettered(self, text, letters):
        """The same text with letters for numbers; letters is a dict of those that are known."""
        found = []
        for line in text.split("\n"):
            words = []
            for word in line.split(" "):
                number = word.rstrip(",")
                if number.isdigit():
                    word = letters.setdefault(number, LETTERS[len(letters)]) + word[len(number):]
                words.append(word)
            found.append(" ".join(words))
        return "\n".join(found)


class TestKinds(Desks):
    def test_at_first_none(self):
        self.refused(Desk(), "kind disk io", NoKind)
        self.refused(Desk(), "program\nbody a\n  raise io x\n", NoText)
        self.says(Desk(), "program\nbody a\n  raise fault x\n", "ok")

    def test_one_more_and_one_more(self):
        desk = Desk()
        for row in ["kind io fault", "kind disk io", "kind net io", "kind a disk", "kind abcdefgh a", "kind math fault"]:
            self.says(desk, row, "ok")
        self.says(desk, "program\nbody a\n  room r whole\n    raise abcdefgh x\n  catch kind net\n    say no\n  catch kind disk\n    say yes\n",
                  "ok")
        self.says(desk, "run a", "went")
        self.says(desk, "said", "yes")

    def test_the_program_stays(self):
        desk = desk_of()
        self.says(desk, "run hello", "went")
        self.says(desk, "kind more disk", "ok")
        self.says(desk, "run hello", "went")
        self.says(desk, "run seven", "answer 7")
        self.says(desk, "said", "hello\n\n two  words ")

    def test_a_new_house_begins(self):
        desk = desk_of()
        self.rose(desk, "two")
        self.rose(desk, "one")
        self.says(desk, "said", "gathering")
        self.says(desk, "kind more disk", "ok")
        self.says(desk, "said", "")
        for number in range(4):
            self.refused(desk, f"show {number}", NoFault)
            self.refused(desk, f"road {number}", NoFault)
        self.rose(desk, "one")
        self.says(desk, "said", "")

    def test_no_kinds(self):
        for row in ["kind io fault", "kind fault fault", "kind sheaf fault", "kind disk io", "kind fault io", "kind sheaf io",
                    "kind new sheaf", "kind new other", "kind new new", "kind io other", "kind io sheaf"]:
            self.refused(desk_of(), row, NoKind)
        desk = desk_of()
        self.refused(desk, "kind new sheaf", NoKind)
        self.says(desk, "kind new io", "ok")
        self.refused(desk, "kind new io", NoKind)

    def test_refused_ones_are_no_kinds(self):
        desk = Desk()
        self.refused(desk, "kind disk io", NoKind)
        self.says(desk, "kind io fault", "ok")
        self.refused(desk, "program\nbody a\n  raise disk x\n", NoText)
        self.says(desk, "kind disk io", "ok")
        self.says(desk, "program\nbody a\n  raise disk x\n", "ok")


class TestPrograms(Desks):
    def test_at_first_no_bodies(self):
        for name in ["main", "a", "none"]:
            self.refused(Desk(), "run " + name, NoBody)

    def test_the_program_from_now_on(self):
        desk = desk_of("body a\n  answer 1\nbody b\n")
        self.says(desk, "run a", "answer 1")
        self.says(desk, "run b", "went")
        self.says(desk, "program\nbody a\n  answer 2\n", "ok")
        self.says(desk, "run a", "answer 2")
        self.refused(desk, "run b", NoBody)

    def test_without_signs(self):
        desk = desk_of()
        self.says(desk, "program\n", "ok")
        self.refused(desk, "run hello", NoBody)
        self.says(desk, "said", "")
        self.says(Desk(), "program\n", "ok")

    def test_a_new_house_begins(self):
        desk = desk_of()
        self.rose(desk, "two")
        self.says(desk, "program\n" + PROGRAM, "ok")
        self.says(desk, "said", "")
        self.refused(desk, "show 0", NoFault)
        self.says(desk, "run hello", "went")
        self.says(desk, "said", "hello\n\n two  words ")

    def test_no_texts(self):
        for text in ["body", "body a", "body a\n\n", "\n", "body A\n", "body a\n say x\n", "body a\n  raise nothing x\n", " ", "x", "run a",
                     "body a\n  again\n", "body a\nbody a\n", "body a\n  answer 01\n", "program\n", "body a\n  say\n", "said"]:
            self.refused(desk_of(), "program\n" + text, NoText)

    def test_refused_ones_are_not_the_program(self):
        desk = desk_of()
        self.rose(desk, "two")
        self.refused(desk, "program\nbody hello\n  say other\nbody", NoText)
        self.says(desk, "run hello", "went")
        self.says(desk, "said", "gathering\nhello\n\n two  words ")


class TestRun(Desks):
    def test_outcomes(self):
        desk = desk_of()
        for row, answer in [("run none", "went"), ("run hello", "went"), ("run seven", "answer 7"), ("run less", "answer -12"),
                            ("run off", "answer 5"), ("run none", "went")]:
            self.says(desk, row, answer)
        self.says(desk_of(f"body a\n  answer {10 ** 60 - 1}\nbody b\n  answer 0\n"), "run a", f"answer {10 ** 60 - 1}")
        self.says(desk_of(f"body a\n  answer {10 ** 60 - 1}\nbody b\n  answer 0\n"), "run b", "answer 0")

    def test_rose(self):
        desk = desk_of()
        numbers = [int(self.rose(desk, name)) for name in ["one", "two", "one", "caught"]]
        self.assertEqual(sorted(set(numbers)), numbers)

    def test_no_bodies(self):
        for name in ["nobody", "hell", "hellos", "hall", "attic", "a", "run", "fault"]:
            self.refused(desk_of(), "run " + name, NoBody)


class TestShow(Desks):
    def test_a_plain_fault(self):
        desk = desk_of()
        number = self.rose(desk, "one")
        self.says(desk, "show " + number, number + " disk full")
        self.says(desk, "show " + number, number + " disk full")

    def test_a_sheaf(self):
        desk = desk_of()
        number = self.rose(desk, "two")
        found = self.lettered(desk.say("show " + number), {})
        self.assertEqual(found, "a sheaf both\n  b disk full\n  c net gone")

    def test_notes_causes_and_what_was_at_work(self):
        desk = desk_of()
        letters = {}
        number = self.rose(desk, "caught")
        found = self.lettered(desk.say("show " + number), letters)
        self.assertEqual(found, "a sheaf \n  b zero by it of c while c\n  d sheaf both\n    e net gone")
        numbers = {letter: known for known, letter in letters.items()}
        found = self.lettered(desk.say("show " + numbers["c"]), letters)
        self.assertEqual(found, 'c sheaf both\n  f disk full note "\\"seen\\""')

    def test_no_faults(self):
        self.refused(Desk(), "show 0", NoFault)
        self.refused(desk_of(), "show 0", NoFault)
        desk = desk_of()
        self.rose(desk, "two")
        for number in ["100", "1" + "0" * 59, "9" * 60]:
            self.refused(desk, "show " + number, NoFault)


class TestRoad(Desks):
    def test_of_itself(self):
        desk = desk_of()
        number = self.rose(desk, "one")
        self.says(desk, "road " + number, "rose, out")
        self.rose(desk, "one")
        self.says(desk, "road " + number, "rose, out")

    def test_of_leaves(self):
        desk = desk_of()
        letters = {}
        shown = self.lettered(desk.say("show " + self.rose(desk, "caught")), letters)
        self.assertEqual(shown, "a sheaf \n  b zero by it of c while c\n  d sheaf both\n    e net gone")
        numbers = {letter: known for known, letter in letters.items()}
        self.says(desk, "road " + numbers["b"], "rose, came hall, left hall, out")
        found = desk.say("road " + numbers["e"])
        words = found.split(" ")
        self.assertEqual(words[0:2] + words[3:], ["rose,", "gathered", "came", "hall,", "left", "hall,", "out"])
        whole = self.lettered(desk.say("show " + words[2].rstrip(",")), letters)
        self.assertEqual(whole, 'f sheaf both\n  g disk full note "\\"seen\\""\n  e net gone')
        numbers = {letter: known for known, letter in letters.items()}
        self.says(desk, "road " + numbers["g"], f"rose, gathered {numbers['f']}, taken hall 0")

    def test_off_and_again(self):
        desk = desk_of("body a\n  room r whole\n    room s whole\n      raise disk x\n    catch kind io\n      again\n  leaving\n    answer 1\n")
        self.says(desk, "run a", "answer 1")
        # It is the only plain fault of this house.
        number = [at for at in range(5) if self.is_plain(desk, at)][0]
        self.says(desk, f"road {number}", f"rose, taken s 0, again {number}, left s, off r")

    def is_plain(self, desk, at):
        try:
            desk.say(f"road {at}")
        except NoFault:
            return False
        return True

    def test_no_faults_and_sheaves(self):
        desk = desk_of()
        self.refused(desk, "road 0", NoFault)
        self.refused(desk, "road " + self.rose(desk, "two"), NoFault)
        self.refused(desk, "road " + self.rose(desk, "caught"), NoFault)
        self.refused(desk, "road " + "9" * 60, NoFault)


class TestSaid(Desks):
    def test_nothing(self):
        self.says(Desk(), "said", "")
        desk = desk_of()
        self.says(desk, "said", "")
        self.says(desk, "run none", "went")
        self.says(desk, "said", "")

    def test_of_all_runs(self):
        desk = desk_of()
        desk.say("run hello")
        self.says(desk, "said", "hello\n\n two  words ")
        self.rose(desk, "caught")
        self.says(desk, "said", "hello\n\n two  words \ngathering\nbye")
        desk.say("run hello")
        self.says(desk, "said", "hello\n\n two  words \ngathering\nbye\nhello\n\n two  words ")

    def test_a_text_without_signs(self):
        desk = desk_of("body a\n  say \n")
        desk.say("run a")
        self.says(desk, "said", "")
        desk.say("run a")
        self.says(desk, "said", "\n")


class TestSplit(Desks):
    def parts(self, desk, number, test):
        """What a sheaf is parted into: two words."""
        found = desk.say(f"split {number} {test}")
        self.assertTrue(found.startswith("fit ") and ", left " in found)
        return found[len("fit "):].split(", left ")

    def test_new_faults_stand_in_the_ledger_behind(self):
        desk = desk_of()
        number = self.rose(desk, "two")
        fit, left = self.parts(desk, number, "kind disk")
        self.assertEqual(len({number, fit, left}), 3)
        self.assertTrue(int(fit) > int(number) and int(left) > int(number))
        self.assertEqual(self.lettered(desk.say("show " + fit), {}), "a sheaf both\n  b disk full")
        self.assertEqual(self.lettered(desk.say("show " + left), {}), "a sheaf both\n  b net gone")
        self.says(desk, f"split {fit} kind disk", f"fit {fit}, left none")
        self.refused(desk, "road " + fit, NoFault)

    def test_none_and_the_fault_itself(self):
        desk = desk_of()
        number = self.rose(desk, "two")
        self.says(desk, f"split {number} kind io", f"fit {number}, left none")
        self.says(desk, f"split {number} kind sheaf", f"fit none, left {number}")
        one = self.rose(desk, "one")
        self.says(desk, f"split {one} says \"full\"", f"fit {one}, left none")
        self.says(desk, f"split {one} not says \"full\"", f"fit none, left {one}")

    def test_tests_with_blanks_and_quotes(self):
        desk = desk_of("body a\n  gather g\n    each\n      raise io  a  b \n    each\n      raise io \n    each\n      raise io \"x\\\n")
        number = self.rose(desk, "a")
        for test, wanted in [('says " a  b "', " a  b "), ('says ""', ""), ('says "\\"x\\\\"', '"x\\'), ('not not says ""', "")]:
            fit, _ = self.parts(desk, number, test)
            lines = desk.say("show " + fit).split("\n")
            self.assertEqual(len(lines), 2)
            self.assertEqual(lines[1].lstrip(" ").partition(" ")[2], "io " + wanted)

    def test_says_nothing_and_is_no_run(self):
        desk = desk_of()
        number = self.rose(desk, "two")
        said = desk.say("said")
        self.parts(desk, number, "kind disk")
        self.says(desk, "said", said)
        self.assertEqual(int(self.rose(desk, "one")) > int(number), True)

    def test_no_faults(self):
        desk = desk_of()
        self.refused(desk, "split 0 kind io", NoFault)
        self.rose(desk, "two")
        for number in ["100", "9" * 60]:
            for test in ["kind io", "kind nothing", "", " ", "kind io ", "says \"", "not"]:
                self.refused(desk, f"split {number} {test}", NoFault)

    def test_no_tests(self):
        desk = desk_of()
        number = self.rose(desk, "two")
        for test in ["", " ", "kind", "kind ", "kind nothing", "kind io ", " kind io", "kind  io", "kind io kind io", "says full", "says \"a",
                     "says \"a\" ", "not", "and kind io", "or kind io kind", "Kind io", "says \"\\a\"", "(kind io)", "none"]:
            self.refused(desk, f"split {number} {test}", NoTest)
        self.refused(desk_of("body a\n  raise fault x\n", [("heat", "fault")]), "split 0 kind io", NoFault)
        desk = desk_of("body a\n  raise fault x\n", [("heat", "fault")])
        number = self.rose(desk, "a")
        self.refused(desk, f"split {number} kind io", NoTest)
        self.says(desk, f"split {number} kind heat", f"fit none, left {number}")


class TestNoRows(Desks):
    def test_no_texts(self):
        for row in NO_TEXTS + [["said"], ("said",), b"said", {"said": 1}]:
            self.refused(desk_of(), row, NoRow)

    def test_words(self):
        for row in ["", " ", "  ", "said ", " said", "said said", "said  ", "Said", "SAID", "sai", "saids", "say", "says", "x", "ok", "went",
                    "help", "kind", "run", "show", "road", "split", "program", "said\n", "\nsaid", "said\nsaid", "nothing 0", "note 0 x"]:
            self.refused(desk_of(), row, NoRow)
            self.refused(Desk(), row, NoRow)

    def test_kind(self):
        for row in ["kind ", "kind new", "kind new ", "kind  new io", "kind new  io", "kind new io ", " kind new io", "kind new io x",
                    "kind New io", "kind new Io", "kind n1 io", "kind abcdefghi io", "kind new abcdefghi", "kind new-x io", "kind 1 io",
                    "kind new 1", "kind new io\n", "kind\nnew io", "kindnew io", "kind \"new\" io", "kind new, io", "Kind new io",
                    "kind  io", "kind io  ", "kind new i_o"]:
            self.refused(desk_of(), row, NoRow)

    def test_program(self):
        for row in ["program", "program ", "program a", "program body a", "program \n", "program \nbody a\n", "program a\nbody a\n", " program\n",
                    "Program\n", "programs\n", "program  \n", "program body a\n"]:
            self.refused(desk_of(), row, NoRow)

    def test_run(self):
        for row in ["run ", "run  ", "run  hello", "run hello ", " run hello", "run hello x", "run hello hello", "run Hello", "run h1", "run 0",
                    "run abcdefghi", "run hello\n", "run\nhello", "runhello", "run hell-o", "run (hello)", "Run hello", "run \nhello"]:
            self.refused(desk_of(), row, NoRow)

    def test_numbers(self):
        desk = desk_of()
        self.rose(desk, "one")
        for word in ["show", "road"]:
            for number in ["", " ", "00", "01", "000", "007", "-0", "-1", "+0", "+1", "a", "0a", "a0", "0 ", " 0", "0 0", "0 x", "1_0", "0.0", "1,0",
                           "none", "0\n", "one", "0x0", "--1", "(0)", "'0'", "True"]:
                self.refused(desk, f"{word} {number}", NoRow)
            for row in [word + "0", word.upper() + " 0", " " + word + " 0", word + "\n0", word + "\t0", word + "  0"]:
                self.refused(desk, row, NoRow)

    def test_split(self):
        desk = desk_of()
        self.rose(desk, "one")
        for row in ["split ", "split 0", "split  0 kind io", "split  kind io", "split kind io", "split -1 kind io", "split 00 kind io",
                    "split 01 kind io", "split +0 kind io", "split a kind io", "split 0\nkind io", "split\n0 kind io", "split 0kind io",
                    " split 0 kind io", "Split 0 kind io", "split0 kind io", "split none kind io", "split 0, kind io", "split  ", "split 0\n",
                    "split 1_0 kind io"]:
            self.refused(desk, row, NoRow)

    def test_numbers_that_are_large(self):
        desk = desk_of()
        for number in ["0" + "9" * 59, "-" + "9" * 59, "9" * 59 + " "]:
            self.refused(desk, "show " + number, NoRow)
            self.refused(desk, "road " + number, NoRow)


class TestOrder(Desks):
    def test_no_row_goes_first(self):
        desk = desk_of()
        self.rose(desk, "two")
        for row in ["kind io Io", "kind Io nothing", "kind io io io", "kind fault 0", "run nobody x", "run Nobody", "split 0100 kind nothing",
                    "split -5 nothing", "split x says \"", "show 0999", "road 0999", "program x\nbody"]:
            self.refused(desk, row, NoRow)

    def test_no_fault_goes_ahead_of_no_test(self):
        self.refused(Desk(), "split 0 ", NoFault)
        self.refused(Desk(), "split 0 kind nothing", NoFault)
        desk = desk_of()
        number = self.rose(desk, "one")
        self.refused(desk, f"split {number} ", NoTest)
        self.refused(desk, f"split {number} kind nothing", NoTest)


class TestTwoDesks(Desks):
    def test_know_nothing_of_one_another(self):
        one, other = Desk(), Desk()
        self.says(one, "kind io fault", "ok")
        self.refused(other, "kind disk io", NoKind)
        self.says(other, "kind io fault", "ok")
        self.says(one, "program\nbody a\n  say x\n  raise io x\n", "ok")
        self.refused(other, "run a", NoBody)
        self.says(other, "program\nbody a\n  say y\n  raise io y\n", "ok")
        number = self.rose(one, "a")
        self.says(other, "said", "")
        self.refused(other, "show " + number, NoFault)
        again = self.rose(other, "a")
        self.says(one, "show " + number, number + " io x")
        self.says(other, "show " + again, again + " io y")
        self.says(one, "said", "x")
        self.says(other, "said", "y")

    def test_told_the_same_they_answer_the_same(self):
        one, other = desk_of(), desk_of()
        letters, others = {}, {}
        dice = Dice(5)
        for _ in range(60):
            row = dice.one_of(["run two", "run caught", "run off", "run hello", "run seven", "said", "run none"])
            self.assertEqual(self.lettered(one.say(row), letters), self.lettered(other.say(row), others))
            if len(letters) > 20:
                letters, others, one, other = {}, {}, desk_of(), desk_of()


class TestBehindRefusals(Desks):
    def test_good_rows_are_answered_as_ever(self):
        desk, other = desk_of(), desk_of()
        letters, others = {}, {}
        for row in ["run hello", "run two", "said", "run caught", "kind more io", "run one", "said", "program\nbody hello\n", "run hello"]:
            for bad, error in [("show 999", NoFault), ("run nobody", NoBody), ("kind io fault", NoKind), ("program\nx", NoText), ("x", NoRow),
                               (None, NoRow), ("split 999 kind io", NoFault)]:
                with self.assertRaises(error):
                    desk.say(bad)
            self.assertEqual(self.lettered(desk.say(row), letters), self.lettered(other.say(row), others))


if __name__ == "__main__":
    unittest.main()
