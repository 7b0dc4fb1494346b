"""Kinds of words: which words a field may hold."""

from townlines.basics import is_integer_within, is_row, text_order
from townlines.errors import BadKind, BadNumber, BadSigns
from townlines.nets import chained, place_count, run_net, side_by_side, takes
from townlines.signs import Signs, is_sign_text, is_signs, signs_of
from townlines.tallies import count_texts

MOST_ALTERNATIVES = 20
MOST_RUNS = 20
MOST_PLACES = 120
MOST_TEXTS = 20
LONGEST_TEXT = 20
HIGHEST_BOUND = 40
MOST_OPERANDS = 9
LONGEST_COUNTED = 60


class Kind:
    """A row of alternatives, each a row of runs `(signs, least, most)`. It never changes."""

    def __init__(self, rows):
        """Take a row of alternatives: tuples of runs whose signs are ascending strings."""
        self.rows = without_repeats(rows)
        if is_too_large(self.rows):
            raise BadKind()
        self.net = side_by_side([alternative_net(row) for row in self.rows])

    @staticmethod
    def run(signs, least=1, most=1):
        """Return the kind of the words of `least` to `most` signs, without an upper bound for None."""
        if not is_signs(signs) or not are_bounds(least, most):
            raise BadKind()
        spelling = signs_of(signs)
        if spelling == "":
            raise BadKind()
        return Kind([((spelling, least, most),)])

    @staticmethod
    def words(texts):
        """Return the kind of just these words."""
        if not is_row(texts) or not 1 <= len(texts) <= MOST_TEXTS:
            raise BadKind()
        if not all([is_short_text(text) for text in texts]):
            raise BadKind()
        return Kind([tuple([(sign, 1, 1) for sign in text]) for text in texts])

    def __add__(self, other):
        return Kind([first + second for first in self.rows for second in other.rows])

    def __or__(self, other):
        # A Signs, on either side, is joined with signs only.
        if isinstance(other, Signs):
            raise BadSigns()
        return Kind(self.rows + other.rows)

    def __mul__(self, other):
        if not is_integer_within(other, 1, MOST_OPERANDS):
            raise BadNumber(other)
        whole = self
        for step in range(other - 1):
            whole = whole + self
        return whole

    def __rmul__(self, other):
        return self * other

    def __eq__(self, other):
        return isinstance(other, Kind) and self.rows == other.rows

    def __contains__(self, x):
        return isinstance(x, str) and takes(self.net, x)

    @property
    def has_empty(self):
        """Whether the empty string is a word of the kind."""
        return takes(self.net, "")

    def alternatives(self):
        """Return the alternatives as a tuple of tuples of runs."""
        return self.rows

    def least(self):
        """Return the least word in the order of texts."""
        return min([least_word(row) for row in self.rows], key=text_order)

    def count_words(self, length):
        """Return the number of different words of this length."""
        if not is_integer_within(length, 0, LONGEST_COUNTED):
            raise BadNumber(length)
        return count_texts(self.net, length)


def are_bounds(least, most):
    """Tell whether a run may have from `least` to `most` signs."""
    if not is_integer_within(least, 0, HIGHEST_BOUND):
        return False
    return most is None or (is_integer_within(most, 1, HIGHEST_BOUND) and least <= most)


def is_short_text(thing):
    """Tell whether `thing` can be one of the texts of Kind.words."""
    return is_sign_text(thing) and 1 <= len(thing) <= LONGEST_TEXT


def without_repeats(rows):
    """Return the alternatives as a tuple, each only where it first stands."""
    kept = {row: True for row in rows}
    return tuple(kept)


def is_too_large(rows):
    """Tell whether the alternatives are too many, too long, or have too many places."""
    if len(rows) > MOST_ALTERNATIVES or any([len(row) > MOST_RUNS for row in rows]):
        return True
    return sum([place_count(least, most) for row in rows for signs, least, most in row]) > MOST_PLACES


def alternative_net(row):
    """Return the net of one alternative."""
    return chained([run_net(signs, least, most) for signs, least, most in row])


def least_word(row):
    """Return the least word that one alternative describes."""
    return "".join([signs[0] * least for signs, least, most in row])
