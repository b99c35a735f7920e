"""Runs: what rises while what is at work."""

import unittest

from faultsheaves.causes import row

from houses import ALWAYS, NEVER, HouseCase, room

NET = ("kind", "net")


def caught(name, catcher, kind="io", text="x", way="whole"):
    """A room from whose body a plain fault rises, and whose catcher takes it."""
    return room(name, [("raise", kind, text)], way, [(ALWAYS, catcher)])


class AtWork(HouseCase):
    def at_work(self, body, **wanted):
        """What was at work for these faults behind a run of this body."""
        return self.of_program([("main", body)], **wanted)

    def of_program(self, program, **wanted):
        seen = self.seen(program)
        self.assertEqual({letter: seen.of(letter)[4] for letter in wanted}, wanted)
        return seen


class TestNothing(AtWork):
    def test_in_a_body(self):
        self.at_work([("raise", "io", "x")], a=None)
        self.at_work([("gather", "g", [[("raise", "io", "x")], [("raise", "io", "y")]])], a=None, b=None, c=None)

    def test_in_a_room_its_otherwise_its_leaving(self):
        self.at_work([room("r", [("raise", "io", "x")])], a=None)
        self.at_work([room("r", [], "whole", [], [("raise", "io", "x")])], a=None)
        self.at_work([room("r", [], "whole", [], [], [("raise", "io", "x")])], a=None)
        self.at_work([room("r", [("answer", 1)], "whole", [], [], [("raise", "io", "x")])], a=None)

    def test_behind_a_catcher(self):
        self.at_work([caught("r", []), ("raise", "io", "y")], a=None, b=None)
        self.at_work([room("r", [("raise", "io", "x")], "whole", [(ALWAYS, [])], [], [("raise", "io", "y")])], a=None, b=None)
        self.at_work([room("r", [("raise", "io", "x")], "whole", [(ALWAYS, [("answer", 1)])], [], [("raise", "io", "y")])], b=None)

    def test_behind_a_leaving(self):
        self.at_work([caught("out", []), room("r", [room("s", [("raise", "io", "y")], "whole", [], [], [("say", "l")])], "whole",
                                               [(ALWAYS, [])]), ("raise", "io", "z")], a=None, b=None, c=None)

    def test_in_a_later_run(self):
        program = [("one", [caught("r", [("raise", "net", "y")])]), ("two", [("raise", "io", "z")])]
        seen = self.seen(program, "one", "two", "one")
        self.assertEqual([seen.of(letter)[4] for letter in "abcde"], [None, "a", None, None, "d"])


class TestCatchers(AtWork):
    def test_a_new_fault(self):
        self.at_work([caught("r", [("raise", "net", "y")])], a=None, b="a")
        self.at_work([caught("r", [("raiseof", "net", "y")])], a=None, b="a")

    def test_a_gathered_sheaf(self):
        self.at_work([caught("r", [("gather", "g", [[("raise", "io", "y")], [("raise", "io", "z")]])])], a=None, b="a", c="a", d="a")

    def test_itself_once_more(self):
        self.at_work([caught("r", [("again",)])], a=None)
        self.at_work([caught("r", [("gather", "g", [[("again",)]])])], a=None, b="a")

    def test_the_innermost(self):
        self.at_work([caught("out", [caught("in", [("raise", "zero", "z")], "net", "y")])], a=None, b="a", c="b")
        self.at_work([caught("out", [caught("in", [], "net", "y"), ("raise", "zero", "z")])], a=None, b="a", c="a")

    def test_a_sheaf(self):
        two = ("gather", "two", [[("raise", "disk", "1")], [("raise", "net", "2")]])
        self.at_work([room("r", [two], "whole", [(ALWAYS, [("raise", "io", "y")])])], a=None, b=None, c=None, d="c")

    def test_hands(self):
        two = ("gather", "two", [[("raise", "disk", "1")], [("raise", "net", "2")], [("raise", "zero", "3")]])
        catchers = [(("kind", "disk"), [("raise", "io", "y")]), (NET, [("raise", "io", "z")])]
        seen = self.at_work([room("r", [two], "out", catchers)], d=None, e=None, f="e", g=None, h="g", i=None)
        self.shapes(seen, e=["two", "a"], g=["two", "b"], i=["", "f", "h", ["two", "c"]])

    def test_a_plain_faults_hand(self):
        seen = self.at_work([caught("r", [("raise", "net", "y")], way="out")], a=None, b=None, c="b", d=None)
        self.shapes(seen, b=["", "a"], d=["", "c"])

    def test_called_bodies(self):
        program = [
            ("deep", [("raise", "zero", "z")]), ("sub", [("say", "s"), ("call", "deep")]),
            ("main", [caught("r", [("call", "sub")])]),
        ]
        self.of_program(program, a=None, b="a")

    def test_rooms_in_called_bodies(self):
        program = [("sub", [caught("in", [("raise", "zero", "z")], "net", "y")]), ("main", [caught("out", [("call", "sub")])])]
        self.of_program(program, a=None, b="a", c="b")

    def test_at_each_place_of_a_room_in_a_catcher(self):
        for inner in [room("in", [("raise", "net", "y")]), room("in", [], "whole", [], [("raise", "net", "y")]),
                      room("in", [], "out", [], [], [("raise", "net", "y")]), room("in", [("answer", 1)], "out", [], [], [("raise", "net", "y")]),
                      ("gather", "g", [[("raise", "net", "y")]])]:
            self.at_work([caught("out", [inner])], a=None, b="a")

    def test_what_comes_out_does_not_rise(self):
        two = ("gather", "two", [[("raise", "disk", "1")], [("raise", "net", "2")]])
        seen = self.at_work([caught("out", [room("in", [two], "out", [(NET, [])])])], a=None, b="a", c="a", d="a", e="a", f="a")
        self.shapes(seen, e=["two", "c"], f=["two", "b"])
        seen = self.at_work([caught("out", [room("in", [two], "out", [(NET, [("raise", "io", "n")])])])], e="a", f="e", g=None)
        self.shapes(seen, g=["", "f", ["two", "b"]])

    def test_a_hand_once_more(self):
        two = ("gather", "two", [[("raise", "disk", "1")], [("raise", "net", "2")]])
        self.at_work([room("r", [two], "out", [(NET, [("again",)])])], a=None, b=None, c=None, d=None)


class TestLeavings(AtWork):
    def test_with_a_fault_on_its_way(self):
        self.at_work([room("r", [("raise", "io", "x")], "whole", [], [], [("raise", "net", "y")])], a=None, b="a")
        self.at_work([room("r", [], "whole", [], [("raise", "io", "x")], [("raise", "net", "y")])], a=None, b="a")
        self.at_work([room("r", [("raise", "io", "x")], "whole", [(ALWAYS, [("raise", "io", "z")])], [], [("raise", "net", "y")])],
                     a=None, b="a", c="b")

    def test_a_gathered_sheaf(self):
        leaving = [("gather", "g", [[("raise", "net", "y")], []])]
        self.at_work([room("r", [("raise", "io", "x")], "whole", [], [], leaving)], a=None, b="a", c="a")

    def test_what_came_out(self):
        two = ("gather", "two", [[("raise", "disk", "1")], [("raise", "net", "2")]])
        seen = self.at_work([room("r", [two], "out", [(NET, [])], [], [("raise", "io", "y")])], d=None, e=None, f="e")
        self.shapes(seen, d=["two", "b"], e=["two", "a"])

    def test_without_one_another_leaving_counts(self):
        inner = room("in", [("say", "s")], "whole", [], [], [("raise", "net", "y")])
        self.at_work([room("out", [("raise", "io", "x")], "whole", [], [], [inner])], a=None, b="a")
        self.at_work([caught("out", [inner])], a=None, b="a")

    def test_with_one_in_a_catcher(self):
        inner = room("in", [("raise", "net", "y")], "whole", [(NEVER, [])], [], [("raise", "zero", "z")])
        self.at_work([caught("out", [inner])], a=None, b="a", c="b")

    def test_a_catcher_in_a_leaving(self):
        leaving = [caught("in", [("raise", "zero", "z")], "net", "y")]
        self.at_work([room("out", [("raise", "io", "x")], "whole", [], [], leaving)], a=None, b="a", c="b")

    def test_behind_a_catcher_in_a_leaving(self):
        leaving = [caught("in", [], "net", "y"), ("raise", "zero", "z")]
        self.at_work([room("out", [("raise", "io", "x")], "whole", [], [], leaving)], a=None, b="a", c="a")

    def test_called_bodies(self):
        program = [
            ("sub", [("raise", "net", "y")]), ("main", [room("r", [("raise", "io", "x")], "whole", [], [], [("call", "sub")])]),
        ]
        self.of_program(program, a=None, b="a")

    def test_in_leavings_in_leavings(self):
        deep = room("deep", [("raise", "io", "2")], "whole", [], [], [("raise", "io", "3")])
        self.at_work([room("r", [("raise", "io", "1")], "whole", [], [], [deep])], a=None, b="a", c="b")

    def test_once_more_while_another_one_is_on_its_way(self):
        inner = room("in", [("raise", "net", "y")], "whole", [], [], [("again",)])
        self.at_work([caught("out", [inner])], a="b", b=None)

    def test_once_more_while_one_further_along_is(self):
        deep = room("deep", [("raise", "zero", "z")], "whole", [], [], [("again",)])
        inner = room("in", [("raise", "net", "y")], "whole", [], [], [deep])
        seen = self.at_work([caught("out", [inner])], a="c", b=None, c="b")
        self.assertEqual(row(seen.ledger, seen.numbers["a"]), [seen.numbers[letter] for letter in "acb"])

    def test_once_more_and_then_once_more(self):
        """The first fault rises while the second one is on its way; then the second one's room is left for good."""
        inner = room("in", [("raise", "net", "y")], "whole", [], [], [("gather", "g", [[("again",)], [("raise", "zero", "z")]])])
        self.at_work([caught("out", [inner])], a="b", b=None, c="b", d="b")


class TestNoRing(AtWork):
    def test_no_row_comes_round(self):
        deep = room("deep", [("raise", "zero", "z")], "whole", [], [], [("again",)])
        bodies = [
            [caught("out", [room("in", [("raise", "net", "y")], "whole", [], [], [deep])])],
            [caught("out", [room("in", [("raise", "net", "y")], "whole", [(ALWAYS, [("raiseof", "io", "w")])], [], [deep])])],
            [caught("out", [room("in", [("again",)], "whole", [], [], [deep])])],
        ]
        for body in bodies:
            seen = self.seen([("main", body)])
            for number in seen.letters:
                along = []
                while number is not None:
                    self.assertNotIn(number, along)
                    along.append(number)
                    number = seen.ledger.at_work(number)


if __name__ == "__main__":
    unittest.main()
