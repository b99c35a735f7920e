"""The ledger of faults: what each is, and its notes, its cause and what was at work."""

from faultsheaves.checks import is_text, is_whole
from faultsheaves.errors import Empty, NoFault, NoKind, NoText, NoWay


class Ledger:
    """Faults, numbered from 0 as they come: each number is a place in all of these lists."""

    def __init__(self, kinds):
        self._kinds = kinds
        self._kind_of = []
        self._text_of = []
        self._members_of = []
        self._notes_of = []
        self._cause_of = []
        self._at_work_of = []

    def plain(self, kind, text):
        """The number of a new plain fault."""
        if not self._kinds.is_kind(kind) or kind == "sheaf":
            raise NoKind("this is no kind of a plain fault")
        self._check_text(text)
        return self._add(kind, text, [])

    def sheaf(self, text, members):
        """The number of a new sheaf of these members."""
        self._check_text(text)
        self._check_members(members)
        return self._add("sheaf", text, members)

    def like(self, k, members):
        """The number of a new sheaf like the sheaf k, but of these members."""
        self._check_fault(k)
        if self._kind_of[k] != "sheaf":
            raise NoFault("this fault is no sheaf")
        self._check_members(members)
        new = self._add("sheaf", self._text_of[k], members)
        self._notes_of[new] = list(self._notes_of[k])
        self._cause_of[new] = self._cause_of[k]
        self._at_work_of[new] = self._at_work_of[k]
        return new

    def many(self):
        """How many faults there are."""
        return len(self._kind_of)

    def kind(self, k):
        """The kind of a fault."""
        self._check_fault(k)
        return self._kind_of[k]

    def text(self, k):
        """The text of a fault."""
        self._check_fault(k)
        return self._text_of[k]

    def members(self, k):
        """The members of a sheaf in order; a plain fault has none."""
        self._check_fault(k)
        return list(self._members_of[k])

    def notes(self, k):
        """The notes of a fault in the order in which they came."""
        self._check_fault(k)
        return list(self._notes_of[k])

    def cause(self, k):
        """The cause of a fault, or None."""
        self._check_fault(k)
        return self._cause_of[k]

    def at_work(self, k):
        """What was at work when a fault rose, or None."""
        self._check_fault(k)
        return self._at_work_of[k]

    def note(self, k, text):
        """Give a fault one note more."""
        self._check_fault(k)
        self._check_text(text)
        self._notes_of[k].append(text)

    def blame(self, k, j):
        """Let j be the cause of k from now on; with None it has none."""
        self._check_fault(k)
        self._check_fault_or_none(j)
        self._cause_of[k] = j

    def rise(self, k, j):
        """Let k rise while j is at work; with None nothing is."""
        self._check_fault(k)
        self._check_fault_or_none(j)
        if j is None or j == k:
            return
        # The row is cut ahead of k first, or it would come round once j is at work for k.
        self._cut_row(j, k)
        self._at_work_of[k] = j

    def leaves(self, k):
        """The leaves of a fault in order, each as a tuple (way, number)."""
        self._check_fault(k)
        found = []
        waiting = [((), k)]
        while waiting:
            way, number = waiting.pop()
            members = self._members_of[number]
            if not members:
                found.append((way, number))
            # The last member goes in first, since what went in last comes out first.
            for place in reversed(range(len(members))):
                waiting.append((way + (place,), members[place]))
        return found

    def led(self, k, way):
        """The number of the fault to which a way leads from k."""
        self._check_fault(k)
        if not isinstance(way, tuple):
            raise NoWay("a way is a tuple of places")
        number = k
        for place in way:
            members = self._members_of[number]
            if not is_whole(place) or not 0 <= place < len(members):
                raise NoWay("no member stands at this place")
            number = members[place]
        return number

    def kinds(self):
        """The kinds of which its faults are."""
        return self._kinds

    def twin(self):
        """A new ledger with just the same."""
        other = Ledger(self._kinds)
        other._kind_of = list(self._kind_of)
        other._text_of = list(self._text_of)
        other._members_of = list(self._members_of)
        other._notes_of = [list(notes) for notes in self._notes_of]
        other._cause_of = list(self._cause_of)
        other._at_work_of = list(self._at_work_of)
        return other

    def _add(self, kind, text, members):
        self._kind_of.append(kind)
        self._text_of.append(text)
        self._members_of.append(tuple(members))
        self._notes_of.append([])
        self._cause_of.append(None)
        self._at_work_of.append(None)
        return len(self._kind_of) - 1

    def _cut_row(self, j, k):
        # The row never comes round, so k stands on it once at the most.
        number = j
        while number is not None and self._at_work_of[number] != k:
            number = self._at_work_of[number]
        if number is not None:
            self._at_work_of[number] = None

    def _check_fault(self, k):
        if not is_whole(k) or not 0 <= k < len(self._kind_of):
            raise NoFault("this is no number of a fault")

    def _check_fault_or_none(self, j):
        if j is not None:
            self._check_fault(j)

    def _check_text(self, text):
        if not is_text(text):
            raise NoText("this is no text")

    def _check_members(self, members):
        if not members:
            raise Empty("a sheaf has one member or more")
        for k in members:
            self._check_fault(k)
