"""What several modules ask about integers, rows, names and the order of texts."""

LONGEST_NAME = 12


def is_integer(thing):
    """Tell whether `thing` is an integer; True and False are none."""
    return isinstance(thing, int) and not isinstance(thing, bool)


def is_integer_within(thing, low, high):
    """Tell whether `thing` is an integer from `low` to `high`."""
    return is_integer(thing) and low <= thing <= high


def is_row(thing):
    """Tell whether `thing` is a list or a tuple."""
    return isinstance(thing, (list, tuple))


def is_name(thing):
    """Tell whether `thing` is a name: a string of 1 to 12 letters from a to z."""
    if not isinstance(thing, str) or not 1 <= len(thing) <= LONGEST_NAME:
        return False
    return all(["a" <= letter <= "z" for letter in thing])


def text_order(text):
    """Return the key by which texts and words are ordered: the shorter one first."""
    return (len(text), text)
