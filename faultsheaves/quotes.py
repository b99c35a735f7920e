"""Texts in quotes: written, and read again."""


def quoted(text):
    """This text in quotes, a stroke ahead of each quote and each stroke in it."""
    # Strokes go first, or those that come ahead of the quotes would get one, too.
    inner = text.replace("\\", "\\\\").replace("\"", "\\\"")
    return "\"" + inner + "\""
