"""Roads: what events tell of a plain fault, by itself and as a leaf of sheaves."""

import unittest

from faultsheaves.errors import NoFault
from faultsheaves.house import House
from faultsheaves.roads import road

from drawn import drawn, names_of
from houses import ALWAYS, HouseCase, number_of, room
from ledgers import no_numbers, some_kinds, some_ledger, told

DISK, NET = ("kind", "disk"), ("kind", "net")
TWO = ("gather", "two", [[("raise", "disk", "1")], [("raise", "net", "2")]])


def wanted_road(ledger, events, k):
    """The road by the words of the document."""
    found = []
    for event in events:
        number = number_of(event)
        if number is None or k not in [leaf for _, leaf in ledger.leaves(number)]:
            continue
        word = event[0]
        if word == "rise":
            found.append(("rose",) if number == k else ("gathered", number))
        elif word == "take":
            found.append(("taken", event[1], event[2]))
        else:
            found.append({
                "again": ("again", number), "come": ("came", event[1]), "off": ("off", event[1]),
                "leave": ("left", event[1]), "end": ("out",),
            }[word])
    return found


class Roads(HouseCase):
    def roads(self, body, **wanted):
        """The roads of these faults behind a run of this body, numbers told by letters."""
        return self.roads_of([("main", body)], ["main"], **wanted)

    def roads_of(self, program, names, **wanted):
        seen = self.seen(program, *names)
        for letter, marks in wanted.items():
            with self.subTest(letter=letter):
                marks = [(mark[0], seen.numbers[mark[1]]) if mark[0] in ("gathered", "again") else mark for mark in marks]
                self.road(seen.ledger, seen.house.events(), seen.numbers[letter], marks)
        return seen

    def road(self, ledger, events, k, wanted):
        """Told so, and nothing is changed or made, the list of events neither."""
        before, given = told(ledger), list(events)
        found = road(ledger, given, k)
        self.assertIs(found.__class__, list)
        self.assertEqual(found, wanted)
        self.assertEqual([mark.__class__ for mark in found], [tuple] * len(found))
        self.assertEqual(given, events)
        self.assertEqual(told(ledger), before)


class TestOfItself(Roads):
    def test_out(self):
        self.roads([("raise", "io", "x")], a=[("rose",), ("out",)])

    def test_left(self):
        inner = room("in", [("raise", "io", "x")], "whole", [(NET, [])])
        self.roads([room("out", [inner], "out")], a=[("rose",), ("left", "in"), ("left", "out"), ("out",)])

    def test_taken(self):
        catchers = [(NET, []), (DISK, []), (ALWAYS, [])]
        self.roads([room("r", [("raise", "disk", "x")], "whole", catchers)], a=[("rose",), ("taken", "r", 1)])
        self.roads([room("r", [("raise", "disk", "x")], "whole", catchers[:1])], a=[("rose",), ("left", "r"), ("out",)])

    def test_again(self):
        body = [room("out", [room("in", [("raise", "io", "x")], "whole", [(ALWAYS, [("again",)])])], "whole", [(ALWAYS, [])])]
        self.roads(body, a=[("rose",), ("taken", "in", 0), ("again", "a"), ("left", "in"), ("taken", "out", 0)])

    def test_off(self):
        for leaving in [[("answer", 1)], [("raise", "io", "y")], [("say", "l"), ("gather", "g", [[("raise", "io", "y")]])]]:
            self.roads([room("r", [("raise", "io", "x")], "whole", [], [], leaving)], a=[("rose",), ("off", "r")])
        self.roads([room("r", [("raise", "io", "x")], "whole", [], [], [("raise", "io", "y")])],
                   b=[("rose",), ("left", "r"), ("out",)])

    def test_off_and_then_nothing(self):
        self.roads([room("r", [("raise", "io", "x")], "whole", [], [], [("answer", 1)]), ("say", "s")], a=[("rose",), ("off", "r")])

    def test_the_same_again_in_a_leaving(self):
        inner = room("in", [("again",)], "whole", [], [], [("again",)])
        self.roads([room("out", [("raise", "io", "x")], "whole", [(ALWAYS, [inner])])],
                   a=[("rose",), ("taken", "out", 0), ("again", "a"), ("again", "a"), ("left", "in"), ("left", "out"), ("out",)])


class TestAsALeaf(Roads):
    def test_gathered(self):
        self.roads([TWO], a=[("rose",), ("gathered", "c"), ("out",)], b=[("rose",), ("gathered", "c"), ("out",)])

    def test_gathered_twice(self):
        self.roads([("gather", "g", [[TWO], []])],
                   a=[("rose",), ("gathered", "c"), ("gathered", "d"), ("out",)])

    def test_taken_whole(self):
        self.roads([room("r", [TWO], "whole", [(("kind", "io"), []), (ALWAYS, [])])],
                   a=[("rose",), ("gathered", "c"), ("taken", "r", 1)], b=[("rose",), ("gathered", "c"), ("taken", "r", 1)])

    def test_again(self):
        self.roads([room("r", [TWO], "whole", [(ALWAYS, [("again",)])])],
                   a=[("rose",), ("gathered", "c"), ("taken", "r", 0), ("again", "c"), ("left", "r"), ("out",)])

    def test_taken_out_of_it_and_left_in_it(self):
        self.roads([room("r", [TWO], "out", [(DISK, []), (("kind", "zero"), [])])],
                   a=[("rose",), ("gathered", "c"), ("taken", "r", 0)],
                   b=[("rose",), ("gathered", "c"), ("came", "r"), ("left", "r"), ("out",)])

    def test_a_hand_again(self):
        self.roads([room("r", [TWO], "out", [(NET, []), (DISK, [("again",)])])],
                   a=[("rose",), ("gathered", "c"), ("taken", "r", 1), ("again", "e"), ("came", "r"), ("left", "r"), ("out",)],
                   b=[("rose",), ("gathered", "c"), ("taken", "r", 0)])

    def test_a_plain_faults_hand(self):
        self.roads([room("r", [("raise", "net", "x")], "out", [(NET, [("again",)])])],
                   a=[("rose",), ("taken", "r", 0), ("again", "b"), ("came", "r"), ("left", "r"), ("out",)])

    def test_with_what_rose_anew(self):
        self.roads([room("r", [TWO], "out", [(NET, [("raise", "io", "n")])])],
                   a=[("rose",), ("gathered", "c"), ("came", "r"), ("left", "r"), ("out",)],
                   b=[("rose",), ("gathered", "c"), ("taken", "r", 0)],
                   e=[("rose",), ("came", "r"), ("left", "r"), ("out",)])

    def test_off(self):
        self.roads([room("r", [TWO], "out", [(NET, [])], [], [("answer", 1)])],
                   a=[("rose",), ("gathered", "c"), ("came", "r"), ("off", "r")], b=[("rose",), ("gathered", "c"), ("taken", "r", 0)])

    def test_at_several_places_one_tuple_for_each_event(self):
        twice = ("gather", "t", [[("again",)], [("gather", "u", [[("again",)], [("raise", "disk", "y")]])], [("again",)]])
        body = [room("out", [("raise", "net", "x")], "whole", [(ALWAYS, [room("in", [twice], "out", [(DISK, [])])])])]
        self.roads(body, a=[("rose",), ("taken", "out", 0), ("again", "a"), ("again", "a"), ("gathered", "c"), ("again", "a"),
                            ("gathered", "d"), ("came", "in"), ("left", "in"), ("left", "out"), ("out",)],
                   b=[("rose",), ("gathered", "c"), ("gathered", "d"), ("taken", "in", 0)])


class TestEvents(Roads):
    def test_of_no_events(self):
        seen = self.seen([("main", [TWO])])
        for letter in "ab":
            self.assertEqual(road(seen.ledger, [], seen.numbers[letter]), [])
        ledger = some_ledger()
        for k in [0, 1, 2, 5, 8]:
            self.road(ledger, [], k, [])

    def test_events_that_tell_of_no_fault(self):
        ledger = some_ledger()
        events = [
            ("run", "main"), ("say", "rise"), ("say", ""), ("enter", "r"), ("leaving", "r"), ("leave", "r", ("went",)),
            ("leave", "r", ("answer", 0)), ("end", ("answer", 1)), ("end", ("went",)),
        ]
        for k in [0, 1, 2, 5, 8]:
            self.road(ledger, events, k, [])

    def test_words_as_texts_and_names(self):
        program = [("rise", [("say", "rise"), room("again", [("raise", "io", "x")], "whole", [(NET, [])])])]
        self.roads_of(program, ["rise"], a=[("rose",), ("left", "again"), ("out",)])

    def test_of_first_parts(self):
        inner = room("in", [TWO], "out", [(NET, [("again",)]), (DISK, [("raise", "io", "n")])], [], [("say", "l")])
        seen = self.seen([("main", [room("out", [inner], "whole", [(ALWAYS, [("raiseof", "io", "o")])])])])
        events = seen.house.events()
        for many in range(len(events) + 1):
            for letter in seen.numbers:
                if seen.of(letter)[0] != "sheaf":
                    k = seen.numbers[letter]
                    self.road(seen.ledger, events[:many], k, wanted_road(seen.ledger, events[:many], k))

    def test_of_several_runs(self):
        program = [("one", [room("r", [("raise", "io", "x")], "whole", [(ALWAYS, [])])]), ("two", [("raise", "net", "y")])]
        self.roads_of(program, ["one", "two", "one"], a=[("rose",), ("taken", "r", 0)], b=[("rose",), ("out",)],
                      c=[("rose",), ("taken", "r", 0)])

    def test_of_a_twin(self):
        seen = self.seen([("main", [room("r", [TWO], "out", [(NET, [])])])])
        for ledger in [seen.ledger, seen.ledger.twin(), seen.house.ledger()]:
            k = seen.numbers["a"]
            marks = [("rose",), ("gathered", seen.numbers["c"]), ("came", "r"), ("left", "r"), ("out",)]
            self.road(ledger, seen.house.events(), k, marks)

    def test_a_longer_road_by_later_splits_is_none(self):
        seen = self.seen([("main", [TWO])])
        before = road(seen.ledger, seen.house.events(), seen.numbers["a"])
        seen.house.split(seen.numbers["c"], NET)
        self.assertEqual(road(seen.house.ledger(), seen.house.events(), seen.numbers["a"]), before)

    def test_list_told_is_the_askers_own(self):
        seen = self.seen([("main", [TWO])])
        first = road(seen.ledger, seen.house.events(), seen.numbers["a"])
        kept = list(first)
        first.clear()
        self.assertEqual(road(seen.ledger, seen.house.events(), seen.numbers["a"]), kept)

    def test_of_drawn_programs(self):
        for seed in range(0, 300):
            found = drawn(seed)
            if found is None:
                continue
            house = House(some_kinds(), found[0])
            for name in names_of(found[0]):
                house.run(name)
            ledger, events = house.ledger(), house.events()
            for k in range(ledger.many()):
                if ledger.kind(k) != "sheaf":
                    self.assertEqual(road(ledger, events, k), wanted_road(ledger, events, k))


class TestRefusals(Roads):
    def refused(self, ledger, events, k):
        before = told(ledger)
        with self.subTest(k=k):
            with self.assertRaises(ValueError) as caught:
                road(ledger, events, k)
            self.assertIs(caught.exception.__class__, NoFault)
            self.assertEqual(told(ledger), before)

    def test_no_faults(self):
        house = House(some_kinds(), [("main", [TWO])])
        self.refused(house.ledger(), [], 0)
        house.run("main")
        for ledger, events in [(house.ledger(), house.events()), (house.ledger(), []), (some_ledger(), [])]:
            for k in no_numbers(ledger) + [None]:
                self.refused(ledger, events, k)

    def test_sheaves(self):
        seen = self.seen([("main", [room("r", [TWO], "out", [(NET, [("again",)])])])])
        for k in range(seen.ledger.many()):
            if seen.ledger.kind(k) == "sheaf":
                self.refused(seen.ledger, seen.house.events(), k)
                self.refused(seen.ledger, [], k)
        for k in [3, 4, 6, 7]:
            self.refused(some_ledger(), [], k)


if __name__ == "__main__":
    unittest.main()
