"""The kinds of faults, and which kind stands under which."""

from faultsheaves.checks import is_name, is_text
from faultsheaves.errors import NoKind


class Kinds:
    """`fault` above all, `sheaf` right beneath it, and the kinds that were told."""

    def __init__(self, pairs):
        self._above = {"fault": None, "sheaf": "fault"}
        for name, above in pairs:
            self._check_new(name, above)
            self._above[name] = above

    def names(self):
        """All kinds: `fault`, `sheaf`, then the others as they were told."""
        return list(self._above)

    def is_kind(self, thing):
        """Whether this is the name of a kind."""
        # A list or a dict can't be looked for in a dict, so only texts are.
        return is_text(thing) and thing in self._above

    def above(self, name):
        """The kind right above this one, None of `fault`."""
        self._check(name)
        return self._above[name]

    def stands_under(self, name, other):
        """Whether one kind is the other one, or somewhere beneath it."""
        self._check(name)
        self._check(other)
        while name is not None and name != other:
            name = self._above[name]
        return name is not None

    def _check(self, name):
        if not self.is_kind(name):
            raise NoKind("this is no kind")

    def _check_new(self, name, above):
        if not is_name(name) or self.is_kind(name):
            raise NoKind("this is no name for a new kind")
        if not self.is_kind(above) or above == "sheaf":
            raise NoKind("this is no kind that a new one may have above it")
