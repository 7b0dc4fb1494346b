"""Which strings are texts that can be read."""

from townlines.errors import BadText
from townlines.nets import FEED
from townlines.signs import SIGNS

# So many characters a text may have.
LONGEST_TEXT = 400


def is_text(thing):
    """Tell whether `thing` is a string of signs and line feeds that is not too long."""
    if not isinstance(thing, str) or len(thing) > LONGEST_TEXT:
        return False
    return all([char in SIGNS or char == FEED for char in thing])


def check_text(thing):
    """Raise BadText() if `thing` is no text."""
    if not is_text(thing):
        raise BadText()
