"""Texts of programs: written, and read."""

import copy
import unittest

from faultsheaves.errors import NoProgram, NoText
from faultsheaves.kinds import Kinds
from faultsheaves.programs import is_program
from faultsheaves.programtexts import program_text, read_program

from drawn import ALL_WORDS, Drawing
from houses import room
from ledgers import NO_TEXTS, some_kinds
from some_programs import NO_LISTS, NO_NAMES, NO_STEPS, PLACES, SORTS, big_program, put, steps

IO, NET = ("kind", "io"), ("kind", "net")
TEXTS = ["", " ", "  ", "a", " a", "a ", "  two  words  ", "\"", "\\", "\\\"", "a \"b\" \\c", "say a", "body x", "#", "x" * 40]


def lines(*told):
    """A text of these lines, each ended by a line feed."""
    return "".join(line + "\n" for line in told)


def lists_within(thing):
    """All lists that stand in this, at any depth, it itself too, each as often as it stands there."""
    found = [thing] if isinstance(thing, list) else []
    if isinstance(thing, (list, tuple)):
        for inner in thing:
            found += lists_within(inner)
    return found


class Texts(unittest.TestCase):
    def both(self, program, *told):
        """The program is written in these lines, and just so it is read."""
        kinds = some_kinds()
        before = copy.deepcopy(program)
        with self.subTest(told=told):
            text = program_text(kinds, program)
            self.assertIs(text.__class__, str)
            self.assertEqual(text, lines(*told))
            self.assertEqual(program, before)
            self.read(lines(*told), program)

    def read(self, text, program):
        found = read_program(some_kinds(), text)
        self.assertEqual(found, program)
        self.same_classes(found, program)
        return found

    def same_classes(self, found, wanted):
        self.assertIs(found.__class__, wanted.__class__)
        if isinstance(wanted, (list, tuple)):
            for one, other in zip(found, wanted):
                self.same_classes(one, other)

    def body(self, body, *told):
        """Likewise a program of this body alone; its lines without what stands ahead of each of them."""
        self.both([("main", body)], "body main", *["  " + line for line in told])

    def refused(self, text, kinds=None):
        with self.subTest(text=text):
            with self.assertRaises(ValueError) as caught:
                read_program(some_kinds() if kinds is None else kinds, text)
            self.assertIs(caught.exception.__class__, NoText)


class TestBodies(Texts):
    def test_without_bodies(self):
        self.both([])

    def test_empty_bodies(self):
        self.both([("main", [])], "body main")
        self.both([("a", []), ("abcdefgh", []), ("body", [])], "body a", "body abcdefgh", "body body")

    def test_several(self):
        program = [("a", [("say", "x")]), ("b", []), ("c", [("call", "a"), ("call", "b")])]
        self.both(program, "body a", "  say x", "body b", "body c", "  call a", "  call b")


class TestSteps(Texts):
    def test_say(self):
        for text in TEXTS:
            self.body([("say", text)], "say " + text)
            self.body([("say", text), ("say", "b"), ("say", text)], "say " + text, "say b", "say " + text)

    def test_raise(self):
        for kind in ["fault", "io", "zero"]:
            for text in TEXTS:
                self.body([("raise", kind, text)], "raise " + kind + " " + text)

    def test_answer(self):
        for number in [0, 1, -1, 7, 10, -10, 100, 2025, -12, 10 ** 59, 10 ** 60 - 1, -(10 ** 60 - 1), 10 ** 59 + 1]:
            self.body([("answer", number)], "answer " + str(number))

    def test_call(self):
        self.both([("a", []), ("b", [("call", "a")])], "body a", "body b", "  call a")

    def test_of_hand(self):
        for text in TEXTS:
            caught = [("again",), ("note", text), ("raiseof", "net", text), ("again",)]
            self.body([room("r", [], "whole", [(IO, caught)])],
                      "room r whole", "catch kind io", "  again", "  note " + text, "  raiseof net " + text, "  again")

    def test_gather(self):
        for text in TEXTS:
            self.body([("gather", text, [[]])], "gather " + text, "  each")
            self.body([("gather", text, [[("say", "a")], [], [("say", "b"), ("say", "")]])],
                      "gather " + text, "  each", "    say a", "  each", "  each", "    say b", "    say ")

    def test_gathers_in_gathers(self):
        inner = ("gather", "in", [[("say", "a")], []])
        self.body([("gather", "out", [[inner, ("say", "b")], [inner]]), ("say", "c")],
                  "gather out", "  each", "    gather in", "      each", "        say a", "      each", "    say b", "  each",
                  "    gather in", "      each", "        say a", "      each", "say c")


class TestRooms(Texts):
    def test_empty(self):
        for way in ["whole", "out"]:
            self.body([room("r", [], way)], "room r " + way)
            self.body([room("r", [], way), room("s", [], way)], "room r " + way, "room s " + way)

    def test_body(self):
        self.body([room("r", [("say", "a"), ("say", "b")]), ("say", "c")], "room r whole", "  say a", "  say b", "say c")

    def test_catchers(self):
        catchers = [(IO, []), (("not", ("says", "a \"b\"")), [("say", "c")]), (("and", NET, ("noted", "")), [("again",)]), (IO, [])]
        self.body([room("r", [("say", "a")], "out", catchers)],
                  "room r out", "  say a", "catch kind io", "catch not says \"a \\\"b\\\"\"", "  say c", "catch and kind net noted \"\"",
                  "  again", "catch kind io")

    def test_otherwise_and_leaving(self):
        self.body([room("r", [], "whole", [], [("say", "o")], [("say", "l")])],
                  "room r whole", "otherwise", "  say o", "leaving", "  say l")
        self.body([room("r", [], "whole", [], [("say", "o")])], "room r whole", "otherwise", "  say o")
        self.body([room("r", [], "whole", [], [], [("say", "l")])], "room r whole", "leaving", "  say l")

    def test_all(self):
        self.body([room("r", [("say", "b")], "out", [(IO, [("say", "c")])], [("say", "o")], [("say", "l")]), ("say", "x")],
                  "room r out", "  say b", "catch kind io", "  say c", "otherwise", "  say o", "leaving", "  say l", "say x")

    def test_at_each_place_of_a_room(self):
        inner = room("in", [("say", "a")], "out", [(NET, [])], [("say", "b")], [("say", "c")])
        told = ["room in out", "  say a", "catch kind net", "otherwise", "  say b", "leaving", "  say c"]
        within = ["  " + line for line in told]
        self.body([room("r", [inner])], "room r whole", *within)
        self.body([room("r", [], "whole", [(IO, [inner])])], "room r whole", "catch kind io", *within)
        self.body([room("r", [], "whole", [], [inner])], "room r whole", "otherwise", *within)
        self.body([room("r", [], "whole", [], [], [inner])], "room r whole", "leaving", *within)
        self.body([inner, room("r", [])], *told, "room r whole")
        self.body([("gather", "g", [[inner], []])], "gather g", "  each", *["  " + line for line in within], "  each")

    def test_a_room_behind_a_room_within(self):
        deep = room("deep", [("raise", "io", "x")])
        self.body([room("out", [room("in", [deep]), room("next", [], "whole", [(IO, [])])], "whole", [(NET, [])])],
                  "room out whole", "  room in whole", "    room deep whole", "      raise io x", "  room next whole", "  catch kind io",
                  "catch kind net")

    def test_words_of_the_language_as_names_and_texts(self):
        for word in ["say", "catch", "leaving", "each", "body", "room", "whole", "out"]:
            self.both([(word, [room(word, [("say", word), ("say", "  " + word)])])],
                      "body " + word, "  room " + word + " whole", "    say " + word, "    say   " + word)


class TestReadAndWritten(Texts):
    def again(self, program):
        """Written, read, written again: the same."""
        kinds = some_kinds()
        text = program_text(kinds, program)
        self.assertEqual(program_text(kinds, self.read(text, program)), text)

    def test_each_sort_of_step_at_each_place(self):
        for word in SORTS:
            for step in steps(word):
                for place in PLACES:
                    for places in [[PLACES[8]], [place, PLACES[8]], [PLACES[8], place]]:
                        program = put([step], places)
                        if is_program(some_kinds(), program):
                            self.again(program)

    def test_of_all_sorts(self):
        self.again(big_program())

    def test_drawn(self):
        for seed in range(300):
            self.again(Drawing(seed, ALL_WORDS).program())

    def test_lists_are_new_ones_each(self):
        empty = room("r", [], "out", [(IO, []), (NET, [])])
        program = [("helper", []), ("main", [empty, ("gather", "g", [[], [], [("say", "a")]]), room("s", [])])]
        text = program_text(some_kinds(), program)
        found = read_program(some_kinds(), text)
        other = read_program(some_kinds(), text)
        for one in lists_within(found):
            one.append("mark")
        # Each list has been marked once for each place where it stands.
        for one in lists_within(found):
            self.assertEqual(len([thing for thing in one if thing == "mark"]), 1)
        self.assertEqual(other, program)
        self.assertEqual(read_program(some_kinds(), text), program)

    def test_lists_of_nothing_are_new_ones_each(self):
        first = read_program(some_kinds(), "")
        first.append("mark")
        self.assertEqual(read_program(some_kinds(), ""), [])


GOOD = lines(
    "body helper", "  say help", "body main", "  gather two", "    each", "      raise io a", "    each", "  room r out",
    "    call helper", "  catch says \"x\"", "    note n", "  catch kind io", "    again", "  otherwise", "    say o", "  leaving",
    "    say l", "  answer 12",
)


class TestNoTexts(Texts):
    def test_no_texts(self):
        for thing in NO_TEXTS + [[("a", [])], ("a", []), b"", b"body a\n"]:
            self.refused(thing)

    def test_good(self):
        self.read(GOOD, [
            ("helper", [("say", "help")]),
            ("main", [
                ("gather", "two", [[("raise", "io", "a")], []]),
                room("r", [("call", "helper")], "out", [(("says", "x"), [("note", "n")]), (IO, [("again",)])], [("say", "o")],
                     [("say", "l")]),
                ("answer", 12),
            ]),
        ])

    def test_line_feeds(self):
        for text in ["\n", "\n\n", GOOD[:-1], GOOD + "\n", "\n" + GOOD, GOOD.replace("body main", "\nbody main"),
                     GOOD.replace("  leaving\n", "  leaving\n\n"), "body main", "body main\n\n", "\nbody main\n",
                     "body main\n  say a", "body main\n\n  say a\n", "body main\n  \n  say a\n", "body main\n  say a\n  \n"]:
            self.refused(text)

    def test_a_blank_more_or_less_ahead(self):
        told = GOOD.split("\n")[:-1]
        for at, line in enumerate(told):
            for changed in [" " + line, "  " + line, "   " + line, line[1:] if line[0] == " " else " " + line, line.lstrip(" ")]:
                if changed != line:
                    self.never_the_same(lines(*told[:at], changed, *told[at + 1:]))

    def never_the_same(self, text):
        """Refused, or read as another program that is written just so."""
        try:
            program = read_program(some_kinds(), text)
        except NoText:
            return
        self.assertNotEqual(program, read_program(some_kinds(), GOOD))
        self.assertEqual(program_text(some_kinds(), program), text)

    def test_odd_blanks_ahead(self):
        for text in ["body main\n say a\n", "body main\n   say a\n", " body main\n", "  body main\n", "body main\nsay a\n",
                     "body main\n    say a\n", "body main\n  gather g\n   each\n", "body main\n  gather g\n  each\n",
                     "body main\n  gather g\n      each\n", "body main\n  gather g\n    each\n     say a\n",
                     "body main\n  gather g\n    each\n    say a\n", "body main\n  gather g\n    each\n        say a\n",
                     "body main\n  room r out\n      say a\n", "body main\n  room r out\n   catch kind io\n",
                     "body main\n  room r out\n    catch kind io\n", "body main\n  room r out\ncatch kind io\n",
                     "body main\n  room r out\n  otherwise\n  say a\n", "body main\n  room r out\n  otherwise\n      say a\n",
                     "body main\n  room r out\n    leaving\n    say a\n", "body main\n\tsay a\n"]:
            self.refused(text)

    def test_blanks_within_and_at_the_end(self):
        for line in ["again ", " again", "answer 1 ", "answer  1", "call helper ", "call  helper", "each ", "room s out ", "room s  out",
                     "room  s out", " room s out", "raise io", "raise  io a", "raise", "raise ", "say", "note", "gather", "raiseof io",
                     "raiseof  io a", "raiseof", "answer", "answer ", "call", "call ", "room", "room ", "room s", "room s ", "room s out x"]:
            catcher = "body helper\nbody main\n  room r whole\n  catch kind io\n"
            self.refused("body helper\nbody main\n  " + line + "\n")
            self.refused(catcher + "    " + line + "\n")
            self.refused(catcher + "    " + line + "\n    say a\n")
        for text in ["body main \n", "body  main\n", "body\n", "body \n", "body main x\n", "Body main\n", "bodymain\n"]:
            self.refused(text)
        for text in ["  catch kind io \n", "  catch  kind io\n", "  catch\n", "  catch \n", "  otherwise \n    say a\n", "  leaving \n    say a\n",
                     "  otherwise x\n    say a\n", "  leaving x\n    say a\n"]:
            self.refused("body main\n  room r out\n" + text)

    def test_numbers(self):
        for number in ["00", "01", "007", "-0", "-00", "-01", "+1", "+0", "--1", "- 1", "1-", "1 2", "1_0", "1,0", "0x1", "1e3", "a", "one",
                       "", " ", "-", "+", "True", "None", "1.0", "00" + "9" * 58]:
            self.refused("body main\n  answer " + number + "\n")

    def test_unknown_words(self):
        for line in ["", "said a", "Say a", "SAY a", "says a", "sayx", "go", "rise io a", "catch kind io", "otherwise", "leaving", "each",
                     "body b", "whole", "out", "once", "Again", "again again", "nothing", "# say a", "(say a)", "'say', 'a'"]:
            self.refused("body main\n  " + line + "\n")
            self.refused("body main\n  say a\n  " + line + "\n  say b\n")
        for line in ["say a", "again", "room r out", "program", "x", "each", "catch kind io", "# body"]:
            self.refused(line + "\n")
            self.refused(line + "\nbody main\n")
            self.refused("body main\n" + line + "\n")

    def test_otherwise_and_leaving(self):
        head = "body main\n  room r out\n"
        for text in [
            "  otherwise\n", "  leaving\n", "  otherwise\n  leaving\n    say a\n", "  otherwise\n    say a\n  leaving\n",
            "  leaving\n    say a\n  otherwise\n    say b\n", "  otherwise\n    say a\n  otherwise\n    say b\n",
            "  leaving\n    say a\n  leaving\n    say b\n", "  otherwise\n    say a\n  catch kind io\n",
            "  otherwise\n    say a\n  catch kind io\n    say b\n", "  leaving\n    say a\n  catch kind io\n",
            "  catch kind io\n  otherwise\n  say a\n", "  say a\n  otherwise\n    say b\n", "  say a\n  leaving\n    say b\n",
            "  say a\n  catch kind io\n",
        ]:
            self.refused(head + text)
        self.read(head + "  otherwise\n    say a\n  leaving\n    say b\n", [("main", [room("r", [], "out", [], [("say", "a")], [("say", "b")])])])

    def test_gathers_and_each(self):
        for text in [
            "  gather g\n", "  gather g\n  each\n", "  gather g\n    say a\n", "  gather g\n    say a\n    each\n",
            "  gather g\n    each\n    say a\n", "  each\n", "  each\n    say a\n", "    each\n", "  room r out\n    each\n",
            "  room r out\n  each\n", "  gather g\n    each x\n", "  gather g\n    Each\n", "  gather g\n    each\n    catch kind io\n",
            "  gather g\n    each\n    otherwise\n      say a\n", "  gather g\n    each\n  each\n", "  gather g\n  say a\n", "  gather\n    each\n",
        ]:
            self.refused("body main\n" + text)

    def test_tests_that_are_none(self):
        for test in ["kind nothing", "kind", "io", "says a", "says \"a", "says \"a\" ", "not", "and kind io", "kind io kind io", "(kind io)",
                     "kind  io", "or kind io  kind net", "says \"\\a\"", "Kind io", "noted 'a'", ""]:
            self.refused("body main\n  room r out\n  catch " + test + "\n")
            self.refused("body main\n  room r out\n  catch kind io\n  catch " + test + "\n    say a\n")

    def test_ways(self):
        for way in ["in", "Whole", "OUT", "wholes", "whole out", "o", "'out'", "none"]:
            self.refused("body main\n  room r " + way + "\n")

    def test_well_written_but_no_program(self):
        for text in [
            "body A\n", "body abcdefghi\n", "body a1\n", "body a\nbody a\n", "body a\nbody b\nbody a\n",
            "body a\n  call a\n", "body a\n  call b\nbody b\n", "body a\n  call x\n", "body a\n  call A\n",
            "body a\n  again\n", "body a\n  note n\n", "body a\n  raiseof io x\n", "body a\n  raise sheaf x\n", "body a\n  raise nothing x\n",
            "body a\n  raise IO x\n", "body a\n  room r out\n  room r out\n", "body a\n  room r out\nbody b\n  room r out\n",
            "body a\n  room R out\n", "body a\n  room abcdefghi out\n", "body a\n  room r out\n    again\n",
            "body a\n  room r out\n  otherwise\n    again\n", "body a\n  room r out\n  leaving\n    note n\n",
            "body a\n  room r out\n  catch kind io\n    answer 1\n", "body a\n  gather g\n    each\n      answer 1\n",
            "body a\n  room r out\n  catch kind io\n    raiseof sheaf x\n", "body a\n  room r out\n    room r whole\n",
            "body a\n  gather g\n    each\n      room r whole\n      leaving\n        answer 1\n",
        ]:
            self.refused(text)

    def test_by_kinds(self):
        none = Kinds([])
        for text in ["body a\n  raise io x\n", "body a\n  room r out\n  catch kind io\n", GOOD]:
            self.refused(text, none)
            read_program(some_kinds(), text)
        self.assertEqual(read_program(none, "body a\n  raise fault x\n"), [("a", [("raise", "fault", "x")])])

    def test_a_line_less(self):
        told = GOOD.split("\n")[:-1]
        for at in range(len(told)):
            self.never_the_same(lines(*told[:at], *told[at + 1:]))
            self.never_the_same(lines(*told[:at], told[at], *told[at:]))

    def test_a_sign_more_or_less(self):
        for at in range(len(GOOD) + 1):
            for changed in [GOOD[:at] + GOOD[at + 1:], GOOD[:at] + " " + GOOD[at:], GOOD[:at] + "\n" + GOOD[at:], GOOD[:at] + "x" + GOOD[at:]]:
                if changed != GOOD:
                    self.never_the_same(changed)

    def test_good_calls_behind_refused_ones(self):
        for _ in range(3):
            self.refused(GOOD + " ")
            self.assertEqual(program_text(some_kinds(), read_program(some_kinds(), GOOD)), GOOD)


class TestNoPrograms(Texts):
    def no_program(self, thing, kinds=None):
        with self.subTest(thing=thing):
            with self.assertRaises(ValueError) as caught:
                program_text(some_kinds() if kinds is None else kinds, thing)
            self.assertIs(caught.exception.__class__, NoProgram)

    def test_of_anything(self):
        for thing in NO_LISTS + [[thing] for thing in NO_LISTS] + [[(name, [])] for name in NO_NAMES]:
            self.no_program(thing)
        for step in NO_STEPS:
            self.no_program([("a", [step])])
            self.no_program(put([step], [PLACES[8]]))

    def test_by_kinds(self):
        self.no_program(big_program(), Kinds([]))
        self.no_program([("a", [room("r", [], "out", [(IO, [])])])], Kinds([("net", "fault")]))

    def test_rules(self):
        for program in [[("a", []), ("a", [])], [("a", [("again",)])], [("a", [("call", "a")])], [("a", [("answer", True)])],
                        [("a", [room("r", []), room("r", [])])], [("a", [("gather", "g", [])])],
                        [("a", [("gather", "g", [[("answer", 1)]])])], [("a", [("raise", "sheaf", "")])]]:
            self.no_program(program)


if __name__ == "__main__":
    unittest.main()
