"""How large things get with houses, roads, texts and desks, and that it is answered in a moment."""

import time
import unittest

from faultsheaves.desk import Desk
from faultsheaves.errors import NoRow, NoTest, NoText
from faultsheaves.house import House
from faultsheaves.programtexts import program_text, read_program, read_test, text_of_test
from faultsheaves.roads import road

from houses import ALWAYS, NEVER, room
from ledgers import PAIRS, some_kinds
from oracle import Match, Oracle

# Far more than a moment, so that a slow machine doesn't fail what a slow program does.
SECONDS = 30
NAMES = "abcdefghij"
SIXTY = 10 ** 60 - 1


def hundred():
    """A step from which a sheaf rises that has one leaf at a hundred places."""
    ten = ("gather", "ten", [[("again",)]] * 10)
    inner = room("in", [("raise", "net", "x")], "whole", [(ALWAYS, [ten])])
    return room("out", [inner], "whole", [(ALWAYS, [ten])])


def many_leaves():
    """A step from which a sheaf of a hundred plain faults rises."""
    bodies = [[("raise", ["net", "disk", "zero"][at % 3], f"text {at}")] for at in range(100)]
    return ("gather", "hundred", bodies)


def sixty(name):
    """Sixty catchers of which each takes one leaf of many_leaves; a few of them do something, by turns."""
    bodies = [[("say", name)], [("raise", "io", "new")], [("again",)], [("note", "n")], [("raiseof", "io", "of")]]
    return [(("says", f"text {at}"), list(bodies[at % 5]) if at < 15 else []) for at in range(60)]


def long_test(at):
    """A test of thirteen tuples, and its text of more than 200 signs."""
    test, text = ("kind", "io"), "kind io"
    for level in range(4):
        says = f"{at} {level} \"" + "x" * 30 + "\\"
        quote = f"{at} {level} \\\"" + "x" * 30 + "\\\\"
        test, text = ("and", ("not", ("says", says)), test), f"and not says \"{quote}\" " + text
    return test, text


def deep_text(name, many):
    """A body's text of so many times seven rooms within one another, each with a catcher with a long test."""
    found = [f"body {name}"]
    for at in range(many):
        for level in range(7):
            found.append("  " * (level + 1) + f"room {name}{NAMES[at]}{NAMES[level]} out")
        found.append("  " * 8 + "say " + "x" * 40)
        for level in reversed(range(7)):
            found.append("  " * (level + 1) + "catch " + long_test(at * 7 + level)[1])
    return "\n".join(found) + "\n"


class Timed(unittest.TestCase):
    def setUp(self):
        self.began = time.process_time()

    def tearDown(self):
        self.assertLess(time.process_time() - self.began, SECONDS)


class TestSizes(Timed):
    def ran(self, program, *names):
        """A house that ran these bodies, looked at whole."""
        house, oracle = House(some_kinds(), program), Oracle(PAIRS, program)
        for name in names:
            house.run(name)
            oracle.run(name)
        Match(self, house, oracle)
        return house

    def test_a_hundred_leaves_and_sixty_catchers(self):
        program = [("main", [room("r", [many_leaves()], "out", sixty("x"))])]
        house = self.ran(program, "main")
        self.assertEqual(len([event for event in house.events() if event[0] == "take"]), 60)

    def test_sixty_catchers_in_twenty_runs(self):
        program = [("main", [room("r", [many_leaves()], "out", sixty("x")[:18])])]
        house = self.ran(program, *["main"] * 20)
        ledger, events = house.ledger(), house.events()
        plain = [k for k in range(ledger.many()) if ledger.kind(k) != "sheaf"]
        for k in plain[::50]:
            self.assertEqual(road(ledger, events, k)[0], ("rose",))

    def test_a_leaf_at_a_hundred_places(self):
        program = [("main", [room("r", [hundred()], "out", [(NEVER, []), (("says", "x"), [("note", "n"), ("again",)])])])]
        house = self.ran(program, *["main"] * 20)
        _, number = house.run("main")
        self.assertEqual(len(house.ledger().leaves(number)), 100)
        leaf = house.ledger().leaves(number)[0][1]
        self.assertEqual(house.ledger().notes(leaf), ["n"])
        marks = road(house.ledger(), house.events(), leaf)
        self.assertEqual(len([mark for mark in marks if mark[0] == "again"]), 21)

    def test_runs_of_a_thousand_steps(self):
        program = [("a", [("say", "x"), ("raise", "io", "x")])]
        for at in range(1, 8):
            caught = [room(f"r{NAMES[at]}{NAMES[side]}", [("call", NAMES[at - 1])], ["whole", "out"][side], [(ALWAYS, [("note", "n")])])
                      for side in [0, 1]]
            program.append((NAMES[at], caught + [("raise", "net", "y")]))
        house = self.ran(program, *["h"] * 5)
        self.assertGreater(len(house.events()), 5 * 1000)

    def test_twenty_long_runs(self):
        program = [("a", [("raise", "io", "x")]), ("b", [room("r", [("call", "a")], "out", [(ALWAYS, [("raiseof", "io", "y")])])])]
        program.append(("c", [("gather", "g", [[("call", "b")]] * 50)]))
        program.append(("main", [room("s", [("call", "c")], "out", [(("says", "x"), []), (ALWAYS, [("again",)])])]))
        house = self.ran(program, *["main"] * 20)
        ledger, events = house.ledger(), house.events()
        for k in range(0, ledger.many(), 97):
            if ledger.kind(k) != "sheaf":
                self.assertGreater(len(road(ledger, events, k)), 1)

    def test_a_hundred_and_twenty_steps(self):
        bodies = [(NAMES[at], [("say", f"{at} {step}") for step in range(11)] + [("call", NAMES[at - 1])][:at]) for at in range(10)]
        house = self.ran(bodies, *NAMES)
        self.assertEqual(len([event for event in house.events() if event[0] == "say"]), 11 * 55)

    def nest(self, at, way, inner):
        """Seven bodies within one another, each in another place; each room's catcher takes what rises in its body."""
        body = inner
        for level in range(7):
            name = f"r{NAMES[at]}{NAMES[level]}"
            if level % 3 == 0:
                body = [room(name, [("raise", "io", name)], way, [(ALWAYS, body)])]
            elif level % 3 == 1:
                body = [("gather", name, [[("say", name)], body])]
            else:
                body = [room(name, [("raise", "io", name)], way, [(NEVER, [])], [], body)]
        return body

    def test_forty_levels_at_once(self):
        for way in ["whole", "out"]:
            program = [("a", self.nest(0, way, [("raise", "zero", "end")]))]
            for at in range(1, 5):
                program.append((NAMES[at], self.nest(at, way, [("call", NAMES[at - 1])])))
            house = self.ran(program, *"abcde")
            self.assertIn(("say", "reb"), house.events())

    def test_forty_levels_of_one_sort(self):
        for way in ["whole", "out"]:
            for spot in range(4):
                program = []
                for at in range(5):
                    body = [("call", NAMES[at - 1])] if at else [("say", "deep"), ("raise", "zero", "x")]
                    for level in range(7):
                        spots = [[("raise", "io", "x")] if spot == 1 else [], [], [], []]
                        spots[spot] = body
                        body = [room(f"r{NAMES[at]}{NAMES[level]}", spots[0], way, [(ALWAYS, spots[1])][:spot == 1], *spots[2:])]
                    program.append((NAMES[at], body))
                house = self.ran(program, "e")
                self.assertIn(("say", "deep"), house.events())

    def test_sheaves_twelve_deep(self):
        program = [("a", [("gather", "0", [[("raise", "net", "x")], [("raise", "disk", "y")]])])]
        for at in range(1, 6):
            inner = [[("gather", "in", [[("call", NAMES[at - 1])]])], [("raise", "zero", "z")]]
            program.append((NAMES[at], [("gather", str(at), inner)]))
        program.append(("main", [room("r", [("call", "f")], "out", [(("kind", "net"), [("again",)]), (("kind", "zero"), [])])]))
        house = self.ran(program, *["main"] * 10)
        ledger = house.ledger()
        deepest = max(len(way) for k in range(ledger.many()) for way, _ in ledger.leaves(k))
        self.assertEqual(deepest, 11)

    def test_numbers_of_sixty_figures(self):
        house = House(some_kinds(), [("a", [("answer", SIXTY)]), ("b", [("answer", -SIXTY)])])
        self.assertEqual([house.run("a"), house.run("b")], [("answer", SIXTY), ("answer", -SIXTY)])


class TestTexts(Timed):
    def test_programs_of_20000_signs(self):
        texts = [deep_text("a", 8), "".join([deep_text(NAMES[at], 1) for at in range(8)])]
        lines = "".join("  say " + "y" * 40 + "\n" for _ in range(50))
        for text in texts:
            whole = text + "body i\n" + lines
            self.assertGreater(len(whole), 15000)
            program = read_program(some_kinds(), whole)
            self.assertEqual(program_text(some_kinds(), program), whole)
            for bad in [whole[:-1], whole + " ", whole + "\n", whole.replace("out", "in"), whole + "body i\n", " " + whole,
                        whole.replace(" kind io", " kind ios", 1)]:
                self.assertRaises(NoText, read_program, some_kinds(), bad)

    def test_texts_of_20000_signs_that_are_none(self):
        for text in ["x" * 20000, "\n" * 20000, " " * 20000, "body a\n" * 2857, "body a\n" + "  " * 9990,
                     "body a\n  answer " + "9" * 60 + "x\n", "body a\n  room r out\n  catch says \"" + "\\\"" * 1400 + "\n",
                     "body a\n" + "x" * 19990 + "\n"]:
            self.assertRaises(NoText, read_program, some_kinds(), text)

    def test_programs_of_sixty_figures(self):
        text = f"body a\n  answer {SIXTY}\nbody b\n  answer -{SIXTY}\n"
        program = [("a", [("answer", SIXTY)]), ("b", [("answer", -SIXTY)])]
        self.assertEqual(program_text(some_kinds(), program), text)
        self.assertEqual(read_program(some_kinds(), text), program)

    def test_tests_of_3000_signs(self):
        test, text = long_test(0)
        other, behind = long_test(1)
        test, text = ("or", test, other), f"or {text} {behind}"
        test, text = ("or", test, ("noted", "\"" * 40)), f"or {text} noted \"" + "\\\"" * 40 + "\""
        self.assertEqual(text_of_test(some_kinds(), test), text)
        self.assertEqual(read_test(some_kinds(), text), test)
        for bad in [text + " ", text[:-1], text + " kind io", text.replace("\\", "", 1), "not" + text]:
            self.assertRaises(NoText, read_test, some_kinds(), bad)
        for bad in ["x" * 3000, " " * 3000, "says \"" + "x" * 2990, "kind io " * 370, "says \"" + "\\" * 2990]:
            self.assertRaises(NoText, read_test, some_kinds(), bad)
        for signs in ["x" * 2980, " " * 2980]:
            self.assertEqual(read_test(some_kinds(), f"noted \"{signs}\""), ("noted", signs))


class TestDesks(Timed):
    def desk(self):
        desk = Desk()
        for name, above in PAIRS:
            desk.say(f"kind {name} {above}")
        return desk

    def test_rows_of_20000_signs(self):
        desk = self.desk()
        leaves = ("gather", "tens", [[("call", "ten")]] * 10)
        ten = ("gather", "ten", [[("raise", "net", f"text {at}")] for at in range(10)])
        program = [("ten", [("say", "z" * 40), ten]), ("main", [room("r", [leaves], "out", sixty("x")[:4])])]
        text = deep_text("a", 5) + "body b\n" + "  answer 1\n" * 20 + program_text(some_kinds(), program)
        self.assertGreater(len(text), 10000)
        self.assertEqual(desk.say("program\n" + text), "ok")
        self.assertEqual(desk.say("run a"), "went")
        for _ in range(18):
            self.assertEqual(desk.say("run main").split(" ")[0], "rose")
        number = desk.say("run main").split(" ")[1]
        self.assertGreater(len(desk.say("show " + number)), 1500)
        self.assertGreater(len(desk.say("said")), 19 * 10 * 40)
        for bad in ["x" * 20000, " " * 20000, "show " + "1" * 60 + " " + "1" * 19000, "said" + " " * 19000, "run " + "a" * 19000,
                    "kind " + "a" * 10000 + " fault", "kind a " * 2800]:
            self.assertRaises(NoRow, desk.say, bad)
        self.assertRaises(NoText, desk.say, "program\n" + "x" * 19000)
        self.assertRaises(NoTest, desk.say, f"split {number} " + "x" * 2900)
        self.assertEqual(desk.say(f"split {number} says \"" + "x" * 2900 + "\""), f"fit none, left {number}")

    def test_thirty_kinds(self):
        desk = Desk()
        names = [letter * 8 for letter in "abcdefghijklmnopqrstuvwxyz"] + ["a", "b", "c", "d"]
        for at, name in enumerate(names):
            self.assertEqual(desk.say(f"kind {name} " + (names[at - 1] if at else "fault")), "ok")
        self.assertEqual(desk.say("program\nbody main\n  room r whole\n    raise d x\n  catch kind aaaaaaaa\n    again\n"), "ok")
        for _ in range(20):
            number = desk.say("run main").split(" ")[1]
            self.assertEqual(desk.say("show " + number), number + " d x")
            self.assertEqual(desk.say("road " + number), f"rose, taken r 0, again {number}, left r, out")


if __name__ == "__main__":
    unittest.main()
