"""What counts as a whole number, a text, a name, asked of anything; and numbers written by figures."""


def is_whole(thing):
    """Whether this is a whole number."""
    # True and False are ints to Python, but no numbers here.
    return isinstance(thing, int) and not isinstance(thing, bool)


def is_text(thing):
    """Whether this is a text."""
    return isinstance(thing, str)


def is_name(thing):
    """Whether this is a text of one to eight small letters, a to z."""
    # Signs are compared one by one, since islower() takes letters beyond a to z, too.
    return is_text(thing) and 1 <= len(thing) <= 8 and all("a" <= sign <= "z" for sign in thing)


def number_of(figures):
    """The whole number that is written by these figures, without noughts ahead, or None."""
    if not figures or (len(figures) > 1 and figures[0] == "0"):
        return None
    number = 0
    # One by one, since int() takes other signs, too, and refuses what is too long for it.
    for figure in figures:
        if not "0" <= figure <= "9":
            return None
        number = number * 10 + ord(figure) - ord("0")
    return number
