"""Texts in quotes: written, and read again."""


def quoted(text):
    """This text in quotes, a stroke ahead of each quote and each stroke in it."""
    # Strokes go first, or those that come ahead of the quotes would get one, too.
    inner = text.replace("\\", "\\\\").replace("\"", "\\\"")
    return "\"" + inner + "\""


def unquoted(text):
    """The text within the quotes with which this one begins, and all that stands behind them."""
    inner = []
    at = 1
    while at < len(text) and text[at] != "\"":
        if text[at] == "\\":
            at += 1
        inner.append(text[at:at + 1])
        at += 1
    return ("".join(inner), text[at + 1:])
