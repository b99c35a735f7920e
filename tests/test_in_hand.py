"""Runs: again, note and raiseof, in whole and in out catchers."""

import unittest

from houses import ALWAYS, NEVER, WENT, HouseCase, entered, room, rose

DISK, NET = ("kind", "disk"), ("kind", "net")
TWO = ("gather", "two", [[("raise", "disk", "1")], [("raise", "net", "2")]])
RISEN = [("rise", "a"), ("rise", "b"), ("rise", "c")]


class TestNoteWhole(HouseCase):
    def test_a_plain_fault(self):
        for texts in [["n"], [""], ["b", "a", "b"], ["\"\\", "two words"]]:
            body = [room("r", [("raise", "io", "x")], "whole", [(ALWAYS, [("note", text) for text in texts] + [("say", "s")])])]
            seen = self.main(body, *entered("r", ("rise", "a"), ("take", "r", 0, "a"), ("say", "s"), WENT), WENT)
            self.are(seen, a=("io", "x", texts, None, None))

    def test_a_sheaf_itself_alone(self):
        seen = self.main([room("r", [TWO], "whole", [(ALWAYS, [("note", "n")])])],
                         *entered("r", *RISEN, ("take", "r", 0, "c"), WENT), WENT)
        self.assertEqual([seen.of(letter)[2] for letter in "abc"], [[], [], ["n"]])

    def test_tests_behind_see_it(self):
        inner = room("in", [("raise", "io", "x")], "whole", [(ALWAYS, [("note", "n"), ("again",)])])
        body = [room("out", [inner], "whole", [(("noted", "m"), []), (("noted", "n"), [("say", "y")])])]
        taken = entered("in", ("rise", "a"), ("take", "in", 0, "a"), ("again", "a"), rose("a"))
        self.main(body, *entered("out", *taken, ("take", "out", 1, "a"), ("say", "y"), WENT), WENT)


class TestNoteOut(HouseCase):
    def test_each_leaf_of_the_hand(self):
        seen = self.main([room("r", [TWO], "out", [(ALWAYS, [("note", "n"), ("note", "m")])])],
                         *entered("r", *RISEN, ("take", "r", 0, "c"), WENT), WENT)
        self.assertEqual([seen.of(letter)[2] for letter in "abc"], [["n", "m"], ["n", "m"], []])

    def test_no_leaf_of_another_hand(self):
        catchers = [(NET, [("note", "n")]), (DISK, [("note", "d")])]
        seen = self.main([room("r", [TWO], "out", catchers)],
                         *entered("r", *RISEN, ("take", "r", 0, "d"), ("take", "r", 1, "e"), WENT), WENT)
        self.assertEqual([seen.of(letter)[2] for letter in "abcde"], [["d"], ["n"], [], [], []])

    def test_no_leaf_that_is_left(self):
        seen = self.main([room("r", [TWO], "out", [(NET, [("note", "n")])])],
                         *entered("r", *RISEN, ("take", "r", 0, "d"), ("come", "r", "e"), rose("e")), rose("e"))
        self.assertEqual([seen.of(letter)[2] for letter in "abcde"], [[], ["n"], [], [], []])

    def test_a_plain_fault_and_not_its_hand(self):
        seen = self.main([room("r", [("raise", "io", "x")], "out", [(ALWAYS, [("note", "n")])])],
                         *entered("r", ("rise", "a"), ("take", "r", 0, "b"), WENT), WENT)
        self.are(seen, a=("io", "x", ["n"], None, None), b=("sheaf", "", [], None, None))

    def test_each_number_once(self):
        twice = ("gather", "t", [[("again",)], [("gather", "u", [[("again",)], [("raise", "disk", "y")]])], [("again",)]])
        inner = room("in", [twice], "out", [(ALWAYS, [("note", "n"), ("note", "n")])])
        body = [room("out", [("raise", "net", "x")], "whole", [(ALWAYS, [inner])])]
        taken = [("again", "a"), ("again", "a"), ("rise", "b"), ("rise", "c"), ("again", "a"), ("rise", "d"), ("take", "in", 0, "d")]
        seen = self.main(body, *entered("out", ("rise", "a"), ("take", "out", 0, "a"), *entered("in", *taken, WENT), WENT), WENT)
        self.shapes(seen, d=["t", "a", ["u", "a", "b"], "a"])
        self.assertEqual([seen.of(letter)[2] for letter in "abcd"], [["n", "n"], ["n", "n"], [], []])


class TestInnermost(HouseCase):
    """What is in hand within rooms and gathers, in catchers of catchers, of both ways."""

    def nest(self, way, inner_way):
        """A room with a catcher with a room with a catcher; there and behind it a note."""
        inner = room("in", [("raise", "net", "y")], inner_way, [(ALWAYS, [("note", "inner")])])
        return [room("out", [("raise", "disk", "x")], way, [(ALWAYS, [("note", "ahead"), inner, ("note", "behind")])])]

    def test_catchers_in_catchers(self):
        for way in ["whole", "out"]:
            for inner_way in ["whole", "out"]:
                seen = self.seen([("main", self.nest(way, inner_way))])
                plain = [letter for letter in seen.numbers if seen.of(letter)[0] != "sheaf"]
                self.assertEqual([seen.of(letter)[:3] for letter in plain],
                                 [("disk", "x", ["ahead", "behind"]), ("net", "y", ["inner"])])
                for letter in seen.numbers:
                    if seen.of(letter)[0] == "sheaf":
                        self.assertEqual(seen.of(letter)[2], [])

    def test_at_each_place_of_a_room_in_a_catcher(self):
        rooms = [
            room("in", [("note", "n")]), room("in", [], "whole", [], [("note", "n")]),
            room("in", [], "whole", [], [], [("note", "n")]), room("in", [("gather", "g", [[("note", "n")]])], "out"),
            room("in", [], "out", [(ALWAYS, [("note", "no")])], [("note", "n")]), ("gather", "g", [[], [("note", "n")]]),
            room("in", [("raise", "net", "y")], "out", [(NEVER, [("note", "no")])], [], [("note", "n"), ("answer", 1)]),
        ]
        for inner in rooms:
            seen = self.seen([("main", [room("out", [("raise", "disk", "x")], "whole", [(ALWAYS, [inner])])])])
            self.assertEqual(seen.of("a")[:3], ("disk", "x", ["n"]))
            for letter in list(seen.numbers)[1:]:
                self.assertEqual(seen.of(letter)[2], [])

    def test_rooms_in_an_out_catcher_note_leaves(self):
        for inner in [room("in", [("note", "n")]), room("in", [], "whole", [], [("note", "n")]), ("gather", "g", [[("note", "n")]]),
                      room("in", [room("deep", [("note", "n")], "whole", [(ALWAYS, [])])], "whole", [(ALWAYS, [])])]:
            seen = self.seen([("main", [room("out", [TWO], "out", [(ALWAYS, [inner])])])])
            self.assertEqual([seen.of(letter)[2] for letter in "abc"], [["n"], ["n"], []])

    def test_whole_catchers_in_an_out_catcher_note_the_hand(self):
        inner = room("in", [("again",)], "whole", [(ALWAYS, [("note", "n")])])
        seen = self.main(
            [room("out", [TWO], "out", [(NET, [inner])])],
            *entered("out", *RISEN, ("take", "out", 0, "d"), *entered("in", ("again", "d"), ("take", "in", 0, "d"), WENT),
                     ("come", "out", "e"), rose("e")), rose("e"),
        )
        self.assertEqual([seen.of(letter)[2] for letter in "abcde"], [[], [], [], ["n"], []])

    def test_a_note_of_the_fault_itself_is_on_what_comes_out(self):
        inner = room("in", [("again",)], "whole", [(ALWAYS, [("note", "n"), ("again",)])])
        taken = [("take", "out", 0, "c"), *entered("in", ("again", "c"), ("take", "in", 0, "c"), ("again", "c"), rose("c"))]
        catchers = [(ALWAYS, [inner])]
        seen = self.main([room("out", [TWO], "out", catchers)], *entered("out", *RISEN, *taken, ("come", "out", "c"), rose("c")),
                         rose("c"))
        self.assertEqual(seen.of("c")[2], ["n"])

    def test_again_means_the_innermost(self):
        inner = room("in", [("raise", "net", "y")], "whole", [(ALWAYS, [("again",)])])
        body = [room("out", [("raise", "disk", "x")], "whole", [(ALWAYS, [inner, ("say", "no")])])]
        taken = entered("in", ("rise", "b"), ("take", "in", 0, "b"), ("again", "b"), rose("b"))
        self.main(body, *entered("out", ("rise", "a"), ("take", "out", 0, "a"), *taken, rose("b")), rose("b"))

    def test_again_behind_an_inner_catcher(self):
        inner = room("in", [("raise", "net", "y")], "whole", [(ALWAYS, [("say", "i")])])
        body = [room("out", [("raise", "disk", "x")], "whole", [(ALWAYS, [inner, ("again",), ("say", "no")])])]
        taken = entered("in", ("rise", "b"), ("take", "in", 0, "b"), ("say", "i"), WENT)
        self.main(body, *entered("out", ("rise", "a"), ("take", "out", 0, "a"), *taken, ("again", "a"), rose("a")), rose("a"))

    def test_again_in_an_inner_rooms_otherwise_and_leaving(self):
        for inner, wanted in [
            (room("in", [], "whole", [(ALWAYS, [("say", "no")])], [("again",)]), entered("in", ("again", "a"), rose("a"))),
            (room("in", [], "whole", [(ALWAYS, [("say", "no")])], [], [("again",)]),
             [("enter", "in"), ("leaving", "in"), ("again", "a"), ("leave", "in", rose("a"))]),
        ]:
            body = [room("out", [("raise", "disk", "x")], "whole", [(ALWAYS, [inner, ("say", "no")])])]
            self.main(body, *entered("out", ("rise", "a"), ("take", "out", 0, "a"), *wanted, rose("a")), rose("a"))


class TestAgain(HouseCase):
    def test_the_same_fault(self):
        body = [room("r", [("raise", "io", "x")], "whole", [(ALWAYS, [("say", "s"), ("again",), ("say", "no")])]), ("say", "no")]
        seen = self.main(body, *entered("r", ("rise", "a"), ("take", "r", 0, "a"), ("say", "s"), ("again", "a"), rose("a")), rose("a"))
        self.are(seen, a=("io", "x", [], None, None))

    def test_a_sheaf(self):
        body = [room("r", [TWO], "whole", [(ALWAYS, [("again",)])])]
        self.main(body, *entered("r", *RISEN, ("take", "r", 0, "c"), ("again", "c"), rose("c")), rose("c"))

    def test_through_several_rooms(self):
        inner = room("in", [("raise", "io", "x")], "whole", [(ALWAYS, [("again",)])])
        middle = room("mid", [inner], "whole", [(NEVER, []), (ALWAYS, [("again",)])])
        outer = room("out", [middle], "whole", [(ALWAYS, [("say", "o")])])
        taken = entered("in", ("rise", "a"), ("take", "in", 0, "a"), ("again", "a"), rose("a"))
        taken = entered("mid", *taken, ("take", "mid", 1, "a"), ("again", "a"), rose("a"))
        self.main([outer], *entered("out", *taken, ("take", "out", 0, "a"), ("say", "o"), WENT), WENT)

    def test_twice_in_a_gather(self):
        again = ("gather", "g", [[("again",)], [("again",)]])
        body = [room("r", [("raise", "io", "x")], "whole", [(ALWAYS, [again, ("say", "no")])])]
        seen = self.main(
            body,
            *entered("r", ("rise", "a"), ("take", "r", 0, "a"), ("again", "a"), ("again", "a"), ("rise", "b"), rose("b")), rose("b"),
        )
        self.shapes(seen, b=["g", "a", "a"])


class TestRaiseof(HouseCase):
    def test_of_a_plain_fault(self):
        for kind in ["fault", "io", "zero"]:
            for text in ["y", "", "\"\\"]:
                body = [room("r", [("raise", "io", "x")], "whole", [(ALWAYS, [("raiseof", kind, text), ("say", "no")])])]
                seen = self.main(body, *entered("r", ("rise", "a"), ("take", "r", 0, "a"), ("rise", "b"), rose("b")), rose("b"))
                self.are(seen, a=("io", "x", [], None, None), b=(kind, text, [], "a", "a"))

    def test_of_a_sheaf(self):
        body = [room("r", [TWO], "whole", [(ALWAYS, [("raiseof", "io", "y")])])]
        seen = self.main(body, *entered("r", *RISEN, ("take", "r", 0, "c"), ("rise", "d"), rose("d")), rose("d"))
        self.are(seen, d=("io", "y", [], "c", "c"))

    def test_of_a_hand(self):
        body = [room("r", [TWO], "out", [(NET, [("raiseof", "io", "y")])])]
        taken = [("take", "r", 0, "d"), ("rise", "e"), ("come", "r", "f")]
        seen = self.main(body, *entered("r", *RISEN, *taken, rose("f")), rose("f"))
        self.are(seen, e=("io", "y", [], "d", "d"))
        self.shapes(seen, d=["two", "b"], f=["", "e", ["two", "a"]])

    def test_of_the_innermost(self):
        inner = room("in", [("raise", "net", "y")], "whole", [(ALWAYS, [("raiseof", "zero", "z")])])
        body = [room("out", [("raise", "disk", "x")], "whole", [(ALWAYS, [inner])])]
        taken = entered("in", ("rise", "b"), ("take", "in", 0, "b"), ("rise", "c"), rose("c"))
        seen = self.main(body, *entered("out", ("rise", "a"), ("take", "out", 0, "a"), *taken, rose("c")), rose("c"))
        self.are(seen, b=("net", "y", [], None, "a"), c=("zero", "z", [], "b", "b"))

    def test_a_plain_raise_has_no_cause(self):
        body = [room("r", [("raise", "io", "x")], "whole", [(ALWAYS, [("raise", "net", "y")])])]
        seen = self.main(body, *entered("r", ("rise", "a"), ("take", "r", 0, "a"), ("rise", "b"), rose("b")), rose("b"))
        self.are(seen, b=("net", "y", [], None, "a"))


if __name__ == "__main__":
    unittest.main()
