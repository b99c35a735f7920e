"""Runs: out rooms, what their catchers have in hand, and what comes out of them."""

import unittest

from houses import ALWAYS, NEVER, WENT, HouseCase, entered, room, rose

IO, DISK, NET, ZERO = [("kind", name) for name in ["io", "disk", "net", "zero"]]

# A sheaf of four, of which the first three are told with the letters a, b, c, the sheaf itself with d.
THREE = ("gather", "three", [[("raise", "disk", "1")], [("raise", "net", "2")], [("raise", "zero", "3")]])
RISEN = [("rise", "a"), ("rise", "b"), ("rise", "c"), ("rise", "d")]


def out(body, catchers, otherwise=(), leaving=()):
    """An out room of this body."""
    return room("r", [body, ("say", "no")], "out", catchers, otherwise, leaving)


class TestNoHands(HouseCase):
    def test_the_fault_itself_goes_on(self):
        for catchers in [[], [(NEVER, [("say", "no")])], [(("kind", "sheaf"), [("say", "no")]), (("says", "three"), [])]]:
            seen = self.main([out(THREE, catchers, [("say", "no")]), ("say", "no")], *entered("r", *RISEN, rose("d")), rose("d"))
            self.shapes(seen, d=["three", "a", "b", "c"])

    def test_of_a_plain_fault(self):
        for catchers in [[], [(NEVER, [("say", "no")])], [(("kind", "sheaf"), []), (NET, [("say", "no")])]]:
            body = [out(("raise", "disk", "x"), catchers)]
            self.main(body, *entered("r", ("rise", "a"), rose("a")), rose("a"))


class TestHands(HouseCase):
    def test_all_leaves(self):
        body = [out(THREE, [(ALWAYS, [("say", "x")])], [("say", "no")]), ("say", "behind")]
        self.main(body, *entered("r", *RISEN, ("take", "r", 0, "d"), ("say", "x"), WENT), ("say", "behind"), WENT)

    def test_one_leaf_and_what_is_left(self):
        body = [out(THREE, [(NET, [("say", "x")])]), ("say", "no")]
        taken = [("take", "r", 0, "e"), ("say", "x"), ("come", "r", "f")]
        seen = self.main(body, *entered("r", *RISEN, *taken, rose("f")), rose("f"))
        self.shapes(seen, d=["three", "a", "b", "c"], e=["three", "b"], f=["three", "a", "c"])

    def test_two_catchers(self):
        catchers = [(DISK, [("say", "x")]), (NEVER, [("say", "no")]), (IO, [("say", "y")])]
        taken = [("take", "r", 0, "e"), ("say", "x"), ("take", "r", 2, "f"), ("say", "y"), ("come", "r", "g")]
        seen = self.main([out(THREE, catchers)], *entered("r", *RISEN, *taken, rose("g")), rose("g"))
        self.shapes(seen, e=["three", "a"], f=["three", "b"], g=["three", "c"])

    def test_the_first_takes_all_that_fit(self):
        catchers = [(IO, [("say", "x")]), (DISK, [("say", "no")]), (ALWAYS, [("say", "y")]), (ZERO, [("say", "no")])]
        taken = [("take", "r", 0, "e"), ("say", "x"), ("take", "r", 2, "f"), ("say", "y")]
        seen = self.main([out(THREE, catchers), ("say", "z")], *entered("r", *RISEN, *taken, WENT), ("say", "z"), WENT)
        self.shapes(seen, e=["three", "a", "b"], f=["three", "c"])

    def test_each_leaf_by_another_one(self):
        catchers = [(ZERO, []), (NET, []), (DISK, [])]
        taken = [("take", "r", 0, "e"), ("take", "r", 1, "f"), ("take", "r", 2, "g")]
        seen = self.main([out(THREE, catchers)], *entered("r", *RISEN, *taken, WENT), WENT)
        self.shapes(seen, e=["three", "c"], f=["three", "b"], g=["three", "a"])

    def test_nested(self):
        body = ("gather", "o", [[THREE], [("raise", "net", "4")], [("raise", "zero", "5")]])
        catchers = [(NET, []), (DISK, [])]
        risen = RISEN + [("rise", "e"), ("rise", "f"), ("rise", "g")]
        taken = [("take", "r", 0, "h"), ("take", "r", 1, "i"), ("come", "r", "j")]
        seen = self.main([out(body, catchers)], *entered("r", *risen, *taken, rose("j")), rose("j"))
        self.shapes(
            seen, g=["o", ["three", "a", "b", "c"], "e", "f"], h=["o", ["three", "b"], "e"], i=["o", ["three", "a"]],
            j=["o", ["three", "c"], "f"],
        )

    def test_tests_are_asked_of_leaves(self):
        catchers = [(("says", "three"), [("say", "no")]), (("says", "2"), [("say", "x")])]
        taken = [("take", "r", 1, "e"), ("say", "x"), ("come", "r", "f")]
        self.main([out(THREE, catchers)], *entered("r", *RISEN, *taken, rose("f")), rose("f"))

    def test_told_first_of_all_catchers(self):
        """What the first one notes has no bearing on what the second one takes."""
        inner = room("s", [("again",)], "out", [(ALWAYS, [("note", "n")])])
        catchers = [(DISK, [inner]), (("noted", "n"), [("say", "no")]), (("not", ("noted", "n")), [("note", "m")])]
        seen = self.main(
            [out(THREE, catchers)],
            *entered(
                "r", *RISEN, ("take", "r", 0, "e"), *entered("s", ("again", "e"), ("take", "s", 0, "e"), WENT),
                ("take", "r", 2, "f"), WENT,
            ), WENT,
        )
        self.shapes(seen, e=["three", "a"], f=["three", "b", "c"])
        self.assertEqual([seen.of(letter)[2] for letter in "abc"], [["n"], ["m"], ["m"]])

    def test_of_a_plain_fault(self):
        catchers = [(NET, [("say", "no")]), (DISK, [("say", "x")]), (IO, [("say", "no")])]
        taken = [("take", "r", 1, "b"), ("say", "x")]
        seen = self.main([out(("raise", "disk", "x"), catchers), ("say", "z")], *entered("r", ("rise", "a"), *taken, WENT),
                         ("say", "z"), WENT)
        self.shapes(seen, b=["", "a"])
        self.are(seen, b=("sheaf", "", [], None, None))


class TestAgain(HouseCase):
    def test_a_hand_that_rises_again_comes_back(self):
        catchers = [(NET, [("again",), ("say", "no")]), (DISK, [("say", "x")])]
        taken = [("take", "r", 0, "e"), ("again", "e"), ("take", "r", 1, "f"), ("say", "x"), ("come", "r", "g")]
        seen = self.main([out(THREE, catchers)], *entered("r", *RISEN, *taken, rose("g")), rose("g"))
        self.shapes(seen, e=["three", "b"], f=["three", "a"], g=["three", "b", "c"])

    def test_all_hands_and_what_is_left_are_the_fault_itself(self):
        catchers = [(NET, [("again",)]), (DISK, [("say", "x"), ("again",)])]
        taken = [("take", "r", 0, "e"), ("again", "e"), ("take", "r", 1, "f"), ("say", "x"), ("again", "f"), ("come", "r", "d")]
        self.main([out(THREE, catchers)], *entered("r", *RISEN, *taken, rose("d")), rose("d"))

    def test_a_hand_that_is_the_fault_itself(self):
        taken = [("take", "r", 0, "d"), ("again", "d"), ("come", "r", "d")]
        self.main([out(THREE, [(ALWAYS, [("again",)])])], *entered("r", *RISEN, *taken, rose("d")), rose("d"))

    def test_one_hand_alone(self):
        catchers = [(NET, [("again",)]), (ALWAYS, [])]
        taken = [("take", "r", 0, "e"), ("again", "e"), ("take", "r", 1, "f"), ("come", "r", "g")]
        seen = self.main([out(THREE, catchers)], *entered("r", *RISEN, *taken, rose("g")), rose("g"))
        self.shapes(seen, g=["three", "b"])

    def test_of_a_plain_fault(self):
        taken = [("take", "r", 0, "b"), ("again", "b"), ("come", "r", "a")]
        seen = self.main([out(("raise", "net", "x"), [(NET, [("again",)])])], *entered("r", ("rise", "a"), *taken, rose("a")),
                         rose("a"))
        self.shapes(seen, b=["", "a"])

    def test_through_an_inner_room(self):
        for inner in [room("s", [("again",)]), room("s", [("again",)], "out", [(NEVER, [])]),
                      room("s", [("again",)], "whole", [(DISK, [("say", "no")])])]:
            catchers = [(NET, [inner, ("say", "no")]), (DISK, [])]
            taken = [("take", "r", 0, "e"), *entered("s", ("again", "e"), rose("e")), ("take", "r", 1, "f"), ("come", "r", "g")]
            seen = self.main([out(THREE, catchers)], *entered("r", *RISEN, *taken, rose("g")), rose("g"))
            self.shapes(seen, g=["three", "b", "c"])

    def test_through_an_inner_out_room_out_of_which_all_comes_back(self):
        inner = room("s", [("again",)], "out", [(NET, [("again",)]), (DISK, [("again",)])])
        taken = [
            ("take", "r", 0, "e"),
            *entered("s", ("again", "e"), ("take", "s", 0, "f"), ("again", "f"), ("take", "s", 1, "g"), ("again", "g"),
                     ("come", "s", "e"), rose("e")),
            ("come", "r", "d"),
        ]
        seen = self.main([out(THREE, [(IO, [inner])])], *entered("r", *RISEN, *taken, rose("d")), rose("d"))
        self.shapes(seen, e=["three", "a", "b"], f=["three", "b"], g=["three", "a"])


class TestAnew(HouseCase):
    def test_one_with_what_is_left(self):
        catchers = [(NET, [("raise", "fault", "new"), ("say", "no")])]
        taken = [("take", "r", 0, "e"), ("rise", "f"), ("come", "r", "g")]
        seen = self.main([out(THREE, catchers)], *entered("r", *RISEN, *taken, rose("g")), rose("g"))
        self.shapes(seen, g=["", "f", ["three", "a", "c"]])
        self.are(seen, f=("fault", "new", [], None, "e"), g=("sheaf", "", [], None, None))

    def test_one_and_nothing_left(self):
        taken = [("take", "r", 0, "d"), ("rise", "e"), ("come", "r", "f")]
        seen = self.main([out(THREE, [(ALWAYS, [("raise", "io", "new")])])], *entered("r", *RISEN, *taken, rose("f")), rose("f"))
        self.shapes(seen, f=["", "e"])

    def test_several_in_the_order_of_the_catchers(self):
        catchers = [(ZERO, [("raise", "io", "z")]), (NEVER, [("raise", "io", "no")]), (DISK, [("say", "x")]),
                    (NET, [("raiseof", "net", "n")])]
        taken = [("take", "r", 0, "e"), ("rise", "f"), ("take", "r", 2, "g"), ("say", "x"), ("take", "r", 3, "h"), ("rise", "i"),
                 ("come", "r", "j")]
        seen = self.main([out(THREE, catchers)], *entered("r", *RISEN, *taken, rose("j")), rose("j"))
        self.shapes(seen, j=["", "f", "i"])
        self.are(seen, i=("net", "n", [], "h", "h"))

    def test_with_one_that_rises_again(self):
        catchers = [(DISK, [("again",)]), (NET, [("raise", "io", "new")])]
        taken = [("take", "r", 0, "e"), ("again", "e"), ("take", "r", 1, "f"), ("rise", "g"), ("come", "r", "h")]
        seen = self.main([out(THREE, catchers)], *entered("r", *RISEN, *taken, rose("h")), rose("h"))
        self.shapes(seen, h=["", "g", ["three", "a", "c"]])

    def test_with_all_back(self):
        catchers = [(DISK, [("gather", "g", [[("again",)]])]), (ZERO, [("again",)]), (NET, [("again",)])]
        taken = [("take", "r", 0, "e"), ("again", "e"), ("rise", "f"), ("take", "r", 1, "g"), ("again", "g"),
                 ("take", "r", 2, "h"), ("again", "h"), ("come", "r", "i")]
        seen = self.main([out(THREE, catchers)], *entered("r", *RISEN, *taken, rose("i")), rose("i"))
        self.shapes(seen, f=["g", ["three", "a"]], i=["", ["g", ["three", "a"]], ["three", "b", "c"]])

    def test_a_part_of_a_hand(self):
        inner = room("s", [("again",)], "out", [(NET, [])])
        taken = [
            ("take", "r", 0, "e"), *entered("s", ("again", "e"), ("take", "s", 0, "f"), ("come", "s", "g"), rose("g")),
            ("come", "r", "h"),
        ]
        seen = self.main([out(THREE, [(IO, [inner])])], *entered("r", *RISEN, *taken, rose("h")), rose("h"))
        self.shapes(seen, e=["three", "a", "b"], f=["three", "b"], g=["three", "a"], h=["", ["three", "a"], ["three", "c"]])

    def test_a_hand_of_an_inner_room_is_anew(self):
        inner = room("s", [("again",)], "out", [(DISK, [("gather", "g", [[("again",)]])])])
        taken = [
            ("take", "r", 0, "d"),
            *entered("s", ("again", "d"), ("take", "s", 0, "e"), ("again", "e"), ("rise", "f"), ("come", "s", "g"), rose("g")),
            ("come", "r", "h"),
        ]
        seen = self.main([out(THREE, [(ALWAYS, [inner])])], *entered("r", *RISEN, *taken, rose("h")), rose("h"))
        self.shapes(seen, g=["", ["g", ["three", "a"]], ["three", "b", "c"]],
                    h=["", ["", ["g", ["three", "a"]], ["three", "b", "c"]]])

    def test_of_a_plain_fault(self):
        taken = [("take", "r", 0, "b"), ("rise", "c"), ("come", "r", "d")]
        seen = self.main([out(("raise", "net", "x"), [(NET, [("raise", "io", "y")])])],
                         *entered("r", ("rise", "a"), *taken, rose("d")), rose("d"))
        self.shapes(seen, b=["", "a"], d=["", "c"])

    def test_what_a_called_body_raises(self):
        program = [("sub", [("raise", "io", "s")]), ("main", [out(THREE, [(NET, [("call", "sub"), ("say", "no")])])])]
        seen = self.seen(program)
        self.assertEqual(seen.events[6:10], [("take", "r", 0, "e"), ("rise", "f"), ("come", "r", "g"), ("leaving", "r")])
        self.shapes(seen, g=["", "f", ["three", "a", "c"]])


class TestSeveralPlaces(HouseCase):
    def test_a_leaf_at_several_places(self):
        twice = ("gather", "t", [[("again",)], [("raise", "disk", "y")], [("again",)]])
        outer = room("o", [("raise", "net", "x")], "whole", [(ALWAYS, [out(twice, [(NET, [("again",)]), (DISK, [])])])])
        seen = self.main(
            [outer],
            *entered(
                "o", ("rise", "a"), ("take", "o", 0, "a"),
                *entered(
                    "r", ("again", "a"), ("rise", "b"), ("again", "a"), ("rise", "c"), ("take", "r", 0, "d"), ("again", "d"),
                    ("take", "r", 1, "e"), ("come", "r", "f"), rose("f"),
                ), rose("f"),
            ), rose("f"),
        )
        self.shapes(seen, c=["t", "a", "b", "a"], d=["t", "a", "a"], e=["t", "b"], f=["t", "a", "a"])


class TestRoomsInRooms(HouseCase):
    def test_what_comes_out_is_taken_further_out(self):
        inner = room("in", [THREE], "out", [(NET, [])])
        outer = room("out", [inner, ("say", "no")], "out", [(DISK, [("say", "d")])])
        taken = entered("in", *RISEN, ("take", "in", 0, "e"), ("come", "in", "f"), rose("f"))
        seen = self.main(
            [outer], *entered("out", *taken, ("take", "out", 0, "g"), ("say", "d"), ("come", "out", "h"), rose("h")), rose("h"),
        )
        self.shapes(seen, f=["three", "a", "c"], g=["three", "a"], h=["three", "c"])

    def test_what_comes_out_is_taken_whole(self):
        inner = room("in", [THREE], "out", [(NET, [("raise", "io", "n")])])
        catchers = [(("says", "three"), [("say", "no")]), (("says", ""), [("say", "yes")])]
        taken = entered("in", *RISEN, ("take", "in", 0, "e"), ("rise", "f"), ("come", "in", "g"), rose("g"))
        seen = self.main(
            [room("out", [inner], "whole", catchers)], *entered("out", *taken, ("take", "out", 1, "g"), ("say", "yes"), WENT), WENT,
        )
        self.shapes(seen, g=["", "f", ["three", "a", "c"]])


if __name__ == "__main__":
    unittest.main()
