"""How large things get: the sizes up to which all is promised."""

import unittest

from faultsheaves.errors import NoFault
from faultsheaves.kinds import Kinds
from faultsheaves.ledger import Ledger

from ledgers import empty_ledger, told

LETTERS = "abcdefghijklmnopqrstuvwxyz"
FORTY = "forty signs: !\"#$&'()*+,-./0123;<=>?@[]~"


def names_of(many):
    """So many names, some of one letter, some of eight."""
    return [LETTERS[k % 26] * (1 if k < 26 else 8) for k in range(many)]


class TestSizes(unittest.TestCase):
    def test_thirty_kinds_in_a_row(self):
        names = names_of(30)
        above = ["fault"] + names[:-1]
        kinds = Kinds(list(zip(names, above)))
        self.assertEqual(kinds.names(), ["fault", "sheaf"] + names)
        for k, name in enumerate(names):
            self.assertEqual(kinds.above(name), above[k])
            self.assertIs(kinds.stands_under(name, "fault"), True)
            self.assertIs(kinds.stands_under(name, "sheaf"), False)
            for j, other in enumerate(names):
                self.assertIs(kinds.stands_under(name, other), j <= k)

    def test_thirty_kinds_side_by_side(self):
        names = names_of(30)
        kinds = Kinds([(name, "fault") for name in names])
        for name in names:
            for other in names:
                self.assertIs(kinds.stands_under(name, other), name == other)
        ledger = Ledger(kinds)
        for k, name in enumerate(names):
            self.assertEqual(ledger.plain(name, ""), k)
            self.assertEqual(ledger.kind(k), name)

    def test_texts(self):
        self.assertEqual(len(FORTY), 40)
        ledger = empty_ledger()
        for text in ["", FORTY, " " * 40]:
            plain = ledger.plain("io", text)
            sheaf = ledger.sheaf(text, [plain])
            ledger.note(plain, text)
            ledger.note(sheaf, text)
            new = ledger.like(sheaf, [sheaf])
            for k in [plain, sheaf, new]:
                self.assertEqual((ledger.text(k), ledger.notes(k)), (text, [text]))

    def test_three_hundred_faults(self):
        ledger = empty_ledger()
        for k in range(300):
            number = ledger.sheaf(f"sheaf {k}", [k - 1, k - 2]) if k % 3 == 2 else ledger.plain("io", f"plain {k}")
            self.assertEqual(number, k)
        for k in range(1, 300):
            ledger.note(k, f"note {k}")
            ledger.blame(k, 299 - k)
            ledger.rise(k, k - 1)
        self.assertEqual(ledger.many(), 300)
        for k in range(1, 300):
            self.assertEqual(ledger.text(k), f"sheaf {k}" if k % 3 == 2 else f"plain {k}")
            self.assertEqual(ledger.members(k), [k - 1, k - 2] if k % 3 == 2 else [])
            self.assertEqual(ledger.notes(k), [f"note {k}"])
            self.assertEqual((ledger.cause(k), ledger.at_work(k)), (299 - k, k - 1))
        self.assertRaises(NoFault, ledger.text, 300)
        self.assertEqual(told(ledger.twin()), told(ledger))

    def test_row_of_three_hundred_is_cut_at_its_end(self):
        ledger = empty_ledger()
        for k in range(300):
            ledger.plain("io", "")
            ledger.rise(k, k - 1 if k > 0 else None)
        ledger.rise(0, 299)
        wanted = [299, None] + list(range(1, 299))
        self.assertEqual([ledger.at_work(k) for k in range(300)], wanted)

    def test_hundred_leaves(self):
        ledger = empty_ledger()
        for _ in range(100):
            ledger.plain("io", "")
        flat = ledger.sheaf("flat", list(range(100)))
        self.assertEqual(ledger.leaves(flat), [((k,), k) for k in range(100)])
        tens = [ledger.sheaf("", list(range(k, k + 10))) for k in range(0, 100, 10)]
        nested = ledger.sheaf("nested", tens)
        self.assertEqual(ledger.leaves(nested), [((k // 10, k % 10), k) for k in range(100)])
        same = ledger.sheaf("same", [7] * 100)
        self.assertEqual(ledger.leaves(same), [((k,), 7) for k in range(100)])

    def test_twelve_deep(self):
        ledger = empty_ledger()
        inner = ledger.plain("io", "")
        for depth in range(1, 13):
            inner = ledger.sheaf("", [inner])
            self.assertEqual(ledger.leaves(inner), [((0,) * depth, 0)])
            self.assertEqual(ledger.led(inner, (0,) * depth), 0)

    def test_many_notes(self):
        ledger = empty_ledger()
        ledger.plain("io", "")
        for k in range(200):
            ledger.note(0, f"{k}")
        self.assertEqual(ledger.notes(0), [f"{k}" for k in range(200)])


if __name__ == "__main__":
    unittest.main()
