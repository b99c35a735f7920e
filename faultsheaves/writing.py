"""Texts of programs and of tests, written."""

from faultsheaves.quotes import quoted

# What each level within has ahead.
_LEVEL = "  "


def written(program):
    """The text of what surely is a program."""
    lines = []
    for name, body in program:
        lines.append(f"body {name}")
        lines.extend(_lines(body, 1))
    return "".join([line + "\n" for line in lines])


def written_test(test):
    """The text of what surely is a test."""
    words = []
    # Written by a list instead of by calls within calls, so that no depth is too deep.
    waiting = [test]
    while waiting:
        found = waiting.pop()
        words.append(found[0])
        if found[0] == "kind":
            words.append(found[1])
        elif found[0] in ("says", "noted"):
            words.append(quoted(found[1]))
        else:
            # The last test goes in first, since what went in last comes out first.
            waiting.extend(list(reversed(found[1:])))
    return " ".join(words)


def _lines(body, level):
    """The lines of a body whose steps stand at this level."""
    lines = []
    for step in body:
        if step[0] == "gather":
            lines.extend(_gather_lines(step, level))
        elif step[0] == "room":
            lines.extend(_room_lines(step, level))
        else:
            lines.append(_LEVEL * level + " ".join([str(part) for part in step]))
    return lines


def _gather_lines(step, level):
    _, text, bodies = step
    lines = [_LEVEL * level + f"gather {text}"]
    for body in bodies:
        lines.extend(_headed("each", body, level + 1))
    return lines


def _room_lines(step, level):
    _, name, body, way, catchers, otherwise, leaving = step
    lines = _headed(f"room {name} {way}", body, level)
    for test, inner in catchers:
        lines.extend(_headed("catch " + written_test(test), inner, level))
    if otherwise:
        lines.extend(_headed("otherwise", otherwise, level))
    if leaving:
        lines.extend(_headed("leaving", leaving, level))
    return lines


def _headed(head, body, level):
    """The lines of a head at this level, and of the body that it has."""
    return [_LEVEL * level + head] + _lines(body, level + 1)
