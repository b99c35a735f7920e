"""Things of all sorts that are no tests, and tests in which such a thing stands."""

from ledgers import NO_KINDS, NO_TEXTS

GOOD = ("kind", "io")

# Things of all sorts that are no tests by PAIRS.
NO_TESTS = [
    None, True, False, 0, 1, -1, "", "kind", "io", "kind io", [], {}, (),
    ["kind", "io"], ["says", "a"], ["noted", "a"], ["not", GOOD], ["and", GOOD, GOOD], ["or", GOOD, GOOD],
    {"kind": "io"}, {"not": GOOD}, [GOOD], (GOOD,), (GOOD, GOOD), ((),), ([],), ({},), (None,), (0,), (True,),
    ("kind",), ("says",), ("noted",), ("not",), ("and",), ("or",), ("",), ("io",), ("a",),
    ("kind", "io", "io"), ("kind", "io", None), ("says", "a", "b"), ("says", "", ""), ("noted", "a", "b"),
    ("not", GOOD, GOOD), ("not", GOOD, None), ("not", GOOD, GOOD, GOOD),
    ("and", GOOD), ("or", GOOD), ("and", GOOD, GOOD, GOOD), ("or", GOOD, GOOD, GOOD),
    ("and", GOOD, GOOD, None), ("or", GOOD, GOOD, None), ("and", (GOOD, GOOD)), ("or", [GOOD, GOOD]),
    ("io", "kind"), ("a", "says"), ("a", "noted"), (GOOD, "not"), (GOOD, "and", GOOD), (GOOD, GOOD, "or"),
    ("", "a"), ("Kind", "io"), ("KIND", "io"), ("kinds", "io"), ("kin", "io"), ("kind ", "io"), (" kind", "io"),
    ("say", "a"), ("text", "a"), ("note", "a"), ("notes", "a"), ("sheaf", "a"), ("fault", "a"), ("fits", "a"),
    ("nor", GOOD), ("no", GOOD), ("NOT", GOOD), ("nor", GOOD, GOOD), ("xor", GOOD, GOOD), ("And", GOOD, GOOD),
    ("OR", GOOD, GOOD), ("but", GOOD, GOOD), ("all", GOOD, GOOD), ("any", [GOOD]),
    (None, "io"), (0, "io"), (1, "io"), (True, "io"), (False, "a"), ([], "io"), ({}, "io"), ((), "io"),
    (["kind"], "io"), (("kind",), "io"), (None, GOOD), ([], GOOD), ({}, GOOD, GOOD), ((), GOOD, GOOD),
    ("kind", GOOD), ("says", GOOD), ("noted", GOOD), ("kind", ("io",)), ("says", ("a",)), ("noted", ("a",)),
    ("not", "io"), ("not", "kind", "io"), ("not", ("kind",)), ("not", ("io",)), ("not", ()), ("not", []),
    ("and", "kind", "io"), ("or", "io", "io"), ("and", "says", "a"), ("or", "", ""),
]
NO_TESTS += [("kind", thing) for thing in NO_KINDS]
NO_TESTS += [(word, thing) for word in ["says", "noted"] for thing in NO_TEXTS]


def within(part):
    """Tests in which this part stands at each place at which one may stand."""
    deep = ("or", ("says", "a"), ("not", ("and", ("noted", "b"), ("not", part))))
    return [
        ("not", part), ("and", part, GOOD), ("and", GOOD, part), ("or", part, GOOD), ("or", GOOD, part),
        ("and", part, part), ("or", part, part), ("not", ("not", part)), deep,
    ]
