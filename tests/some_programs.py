"""What the tests of programs need: steps, all places where a body may stand, and things that are no parts of a program."""

from ledgers import NO_KINDS, NO_TEXTS
from no_tests import NO_TESTS

# For each word of a step, what sorts of things stand behind it.
SORTS = {
    "say": ["text"], "raise": ["kind", "text"], "answer": ["number"], "call": ["call"], "gather": ["text", "bodies"],
    "again": [], "note": ["text"], "raiseof": ["kind", "text"],
    "room": ["name", "body", "way", "catchers", "body", "body"],
}

NO_LISTS = [None, True, False, 0, 1, -1, "", "say", (), (("say", "a"),), ("say", "a"), ([],), {}, {"say": "a"}]
NO_NAMES = ["", "A", "aB", "a1", "1", "a ", " a", "a b", "abcdefghi", "a_b", "a-b", "."] + NO_TEXTS
NO_STEPS = [
    None, True, False, 0, 1, "", "say", "again", [], {}, (), ("",), ("said", "a"), ("Say", "a"), ("SAY", "a"),
    ("say ", "a"), ("nothing",), ("go", "a"), (None,), (0, "a"), (True, "a"), ([], "a"), ({}, "a"), ((), "a"),
    (["say"], "a"), (("say", "a"),), ((("say", "a")),), [("say", "a")], ["say", "a"], ["again"], {"say": "a"},
    ("catch", ("kind", "io"), []), ("otherwise", []), ("leaving", []), ("each", []), ("body", "a", []), ("sheaf", "a"),
    ("went",), ("rose", 0), ("rise", "io", "a"), ("take", "a"), ("whole", []), ("out", []), ("kind", "io"),
    ("a", "say"), ("io", "raise", "a"),
]
NO_BODIES = NO_LISTS + [[step] for step in NO_STEPS] + [[("say", "a"), None], [None, ("say", "a")], [[]], [[("say", "a")]]]
NO_CATCHER = [
    None, True, 0, "", "catch", [], {}, (), (("kind", "io"),), (("kind", "io"), [], []), (("kind", "io"), [], None),
    [("kind", "io"), []], ([], ("kind", "io")), ([],), ("kind", "io"), ("catch", ("kind", "io"), []), ("io", []),
]

# Things that are none of their sort, whatever stands around them.
BAD = {
    "text": NO_TEXTS,
    "kind": NO_KINDS + ["sheaf"],
    "number": [None, True, False, "", "0", "1", [], [0], (), (1,), {}, {0: 1}],
    "call": ["nobody", "helpe", "helper ", "Helper", "main"] + NO_NAMES,
    "name": NO_NAMES,
    "way": ["", "Whole", "OUT", "wholes", "whole ", " out", "in", "all", "wholeout"] + NO_TEXTS,
    "body": NO_BODIES,
    "bodies": NO_LISTS + [[]] + [[thing] for thing in NO_BODIES] + [[[], thing] for thing in NO_BODIES[::3]],
    "catchers": NO_LISTS + [[thing] for thing in NO_CATCHER] + [[(test, [])] for test in NO_TESTS]
    + [[(("kind", "io"), body)] for body in NO_BODIES] + [[(("kind", "io"), []), thing] for thing in NO_CATCHER],
}

# Good things of each sort; what stands for a call is the name of a body that each program here has ahead.
GOOD = {
    "text": ["", "a", " ", "  two  words ", "\"\\", "x" * 40, "say a", "#"],
    "kind": ["fault", "io", "disk", "net", "math", "zero"],
    "number": [0, 1, -1, 7, 10 ** 60 - 1, -(10 ** 60 - 1)],
    "call": ["helper"],
    "name": ["a", "z", "abcdefgh", "main", "helper", "say", "room", "fault", "io"],
    "way": ["whole", "out"],
    "body": [[], [("say", "a")], [("say", "a"), ("raise", "io", ""), ("say", "")]],
    "bodies": [[[]], [[], []], [[("say", "a")], [], [("raise", "io", "a")]]],
    "catchers": [
        [], [(("kind", "io"), [])], [(("says", ""), [("say", "a")]), (("not", ("kind", "sheaf")), [("again",)])],
        [(("or", ("noted", "\""), ("and", ("kind", "fault"), ("says", "x"))), [("note", ""), ("raiseof", "io", "")])],
    ],
}


def steps(word):
    """Good steps of this sort: each good thing at each place, the first one at all others."""
    base = [GOOD[sort][0] for sort in SORTS[word]]
    found = [(word, *base)]
    for at, sort in enumerate(SORTS[word]):
        found += [(word, *base[:at], thing, *base[at + 1:]) for thing in GOOD[sort][1:]]
    return found


def bad_steps(word):
    """Steps of this sort with one thing that is none of its sort, and with a part more or less."""
    base = [GOOD[sort][0] for sort in SORTS[word]]
    found = []
    for at, sort in enumerate(SORTS[word]):
        found += [(word, *base[:at], thing, *base[at + 1:]) for thing in BAD[sort]]
        found.append((word, *base[:at], *base[at + 1:]))
    for thing in [None, "", "a", 0, [], (), "io"]:
        found.append((word, *base, thing))
    found.append([word, *base])
    return found


def in_gather(body, name):
    return ("gather", name, [[("say", "a")], body, []])


def in_gather_first(body, name):
    return ("gather", name, [body])


def in_body(body, name):
    return ("room", name, body, "whole", [(("kind", "io"), [("again",)])], [], [])


def in_otherwise(body, name):
    return ("room", name, [], "whole", [(("kind", "io"), [("again",)])], body, [])


def in_leaving(body, name):
    return ("room", name, [], "whole", [(("kind", "io"), [("again",)])], [], body)


def in_out_body(body, name):
    return ("room", name, body, "out", [(("kind", "io"), [("again",)])], [], [])


def in_out_otherwise(body, name):
    return ("room", name, [], "out", [(("kind", "io"), [("again",)])], body, [])


def in_out_leaving(body, name):
    return ("room", name, [], "out", [(("kind", "io"), [("again",)])], [], body)


def in_whole_catcher(body, name):
    return ("room", name, [], "whole", [(("says", "a"), []), (("kind", "io"), body), (("kind", "io"), [])], [], [])


def in_out_catcher(body, name):
    return ("room", name, [], "out", [(("says", "a"), []), (("kind", "io"), body), (("kind", "io"), [])], [], [])


# Each place where a body may stand: how to put one there, whether it is a catcher's, whether an answer may stand in it.
PLACES = [
    (in_gather, False, False), (in_gather_first, False, False), (in_body, False, True), (in_otherwise, False, True),
    (in_leaving, False, True), (in_out_body, False, True), (in_out_otherwise, False, True), (in_out_leaving, False, True),
    (in_whole_catcher, True, True), (in_out_catcher, True, False),
]

ROOMS = ["outer", "middle", "inner", "third", "fourth", "fifth", "sixth", "seventh"]


def put(body, places):
    """A program in which this body stands within all these places, the first one outermost."""
    for at, place in reversed(list(enumerate(places))):
        body = [("say", "ahead"), place[0](body, ROOMS[at]), ("say", "behind")]
    return [("helper", [("say", "help")]), ("main", body)]


def held(places):
    """Whether what stands within all these places stands within a catcher."""
    return any(place[1] for place in places)


def free(places):
    """Whether an answer may stand within all these places."""
    return all(place[2] for place in places)


def big_program():
    """A program with each sort of step, each at several places, of kinds PAIRS."""
    catchers = [
        (("kind", "disk"), [("note", "seen"), ("again",), ("say", "never")]),
        (("and", ("kind", "io"), ("not", ("says", "full"))), [("raiseof", "zero", "by \"it\"")]),
        (("or", ("noted", "b"), ("kind", "sheaf")), []),
    ]
    inner = ("room", "inner", [("raise", "net", "gone")], "out", catchers, [("say", "never")], [("say", "left")])
    whole = [(("kind", "zero"), [inner, ("answer", -12)]), (("says", ""), [("call", "helper")])]
    return [
        ("helper", [("say", "help"), ("answer", 3), ("say", "")]),
        ("empty", []),
        ("main", [
            ("say", "start"), ("call", "helper"),
            ("gather", "three", [[("raise", "disk", "full")], [], [("say", "x"), ("call", "empty")]]),
            ("room", "main", [("gather", "", [[("raise", "zero", "")]])], "whole", whole, [], [("say", "bye")]),
            ("room", "last", [], "out", [], [("say", "went")], []),
        ]),
    ]
