"""Texts of programs and of tests, read."""

from faultsheaves.checks import is_text, number_of
from faultsheaves.fitting import is_test
from faultsheaves.programs import is_program
from faultsheaves.quotes import unquoted
from faultsheaves.writing import written, written_test


class Reader:
    """The lines of a text, each as (level, word, rest), and the place of the one that is next."""

    def __init__(self, kinds, text):
        self.known = kinds
        self.rows = [_line(line) for line in text.split("\n")]
        self.place = 0


def as_program(kinds, text):
    """The program that is written so, or None; asked of anything."""
    if not is_text(text):
        return None
    program = _bodies(Reader(kinds, text))
    # What isn't written just so comes out otherwise when it is written again.
    if not is_program(kinds, program) or written(program) != text:
        return None
    return program


def as_test(kinds, text):
    """The test that is written so, or None; asked of anything."""
    if not is_text(text):
        return None
    test = _put_together(_pieces(text))
    # What isn't written just so comes out otherwise when it is written again.
    if not is_test(kinds, test) or written_test(test) != text:
        return None
    return test


def _line(text):
    told = text.lstrip(" ")
    word, _, rest = told.partition(" ")
    return ((len(text) - len(told)) // 2, word, rest)


def _is_next(reader, level, word):
    """Whether the next line stands at this level and begins with this word."""
    return reader.place < len(reader.rows) and reader.rows[reader.place][:2] == (level, word)


def _rest(reader):
    """What stands behind the word of the next line, which then is not the next one any more."""
    _, _, rest = reader.rows[reader.place]
    reader.place += 1
    return rest


def _bodies(reader):
    """The program up to the first line that could not stand where it does."""
    program = []
    while _is_next(reader, 0, "body"):
        program.append((_rest(reader), _steps(reader, 1)))
    return program


def _steps(reader, level):
    steps = []
    while reader.place < len(reader.rows) and reader.rows[reader.place][0] == level:
        steps.append(_step(reader, level))
    return steps


def _step(reader, level):
    """The step that is next, or, where its line writes none, a thing that is no step."""
    _, word, _ = reader.rows[reader.place]
    rest = _rest(reader)
    if word == "gather":
        return (word, rest, _each(reader, level + 1))
    if word == "room":
        return _room(reader, rest, level)
    if word in ("raise", "raiseof"):
        kind, _, text = rest.partition(" ")
        return (word, kind, text)
    if word == "answer":
        return (word, _whole_of(rest))
    if word == "again":
        return (word,)
    return (word, rest)


def _each(reader, level):
    """The bodies of a gather."""
    bodies = []
    while _is_next(reader, level, "each"):
        _rest(reader)
        bodies.append(_steps(reader, level + 1))
    return bodies


def _room(reader, rest, level):
    name, _, way = rest.partition(" ")
    body = _steps(reader, level + 1)
    catchers = []
    while _is_next(reader, level, "catch"):
        test = as_test(reader.known, _rest(reader))
        catchers.append((test, _steps(reader, level + 1)))
    return ("room", name, body, way, catchers, _under(reader, "otherwise", level), _under(reader, "leaving", level))


def _under(reader, word, level):
    """The body that stands under a line of this word alone; without steps where there is no such line."""
    if not _is_next(reader, level, word):
        return []
    _rest(reader)
    return _steps(reader, level + 1)


def _whole_of(text):
    """The whole number that is written so, or None."""
    if not text.startswith("-"):
        return number_of(text)
    number = number_of(text[1:])
    return None if number is None else -number


def _pieces(text):
    """What a text is made of, in order: words, and whole tests that have no others in them."""
    found = []
    rest = text
    while rest:
        word, _, rest = rest.partition(" ")
        if word == "kind":
            name, _, rest = rest.partition(" ")
            found.append((word, name))
        elif word in ("says", "noted"):
            told, behind = unquoted(rest)
            rest = behind[1:]
            found.append((word, told))
        else:
            found.append(word)
    return found


def _put_together(pieces):
    """The test that is made of these, or None."""
    built = []
    # From the end, so that the tests behind a word are there when the word comes.
    for piece in reversed(pieces):
        if not is_text(piece):
            built.append(piece)
        elif piece == "not" and built:
            built.append((piece, built.pop()))
        elif piece in ("and", "or") and len(built) > 1:
            built.append((piece, built.pop(), built.pop()))
        else:
            return None
    return built[0] if len(built) == 1 else None
