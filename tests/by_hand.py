"""What the document says of kinds, worked out slowly and plainly, and objects to try."""

import itertools

from townlines.errors import BadItem, BadName, BadSigns, TownError
from townlines.forms import Form
from townlines.items import Field, Mark, Maybe
from townlines.kinds import Kind
from townlines.signs import Signs

ALL_SIGNS = "".join(chr(code) for code in range(32, 127) if code != 37)

# Objects that are neither strings nor Signs nor Kinds nor numbers.
ROWS = [[], (), ["a"], ("a",), ["a", "b"], [["a"], ("b", {"c": 1})], [Signs("a")]]
DICTS = [{}, {"a": 1}, {1: ["a"]}, {"a": {"b": None}}]
ERRORS = [TownError(), BadSigns(), BadName("a"), BadItem(3)]
FIELD, MARK = Field("a", Kind.run("a")), Mark("a")
MAYBE, FORM = Maybe([FIELD, MARK]), Form([[FIELD, MARK]])
PLAIN_OBJECTS = [None, True, False, *ROWS, *DICTS, *ERRORS, FIELD, MARK, MAYBE, FORM, [FIELD], (MARK, MAYBE)]
NUMBERS = [0, 1, -1, 2, 33, 97, 10 ** 30]

# Strings of which at least one character is no sign.
NO_SIGN_TEXTS = ["%", "\t", "\n", "\x7f", "\x1f", "\x00", "\xe4", "\u0141", "\U0001f600",
                 "a%", "%a", "a\tb", "ab\n", "\nab", "a\x7f", "a\xa0b", "abc\u2028"]


def strings(signs, longest):
    """All strings of at most `longest` characters over these signs."""
    for length in range(longest + 1):
        for row in itertools.product(signs, repeat=length):
            yield "".join(row)


def describes(runs, word):
    """Whether the word is made of one word of each run, one directly after the other."""
    if not runs:
        return word == ""
    signs, least, most = runs[0]
    highest = len(word) if most is None else min(most, len(word))
    return any(all(sign in signs for sign in word[:taken]) and describes(runs[1:], word[taken:])
               for taken in range(least, highest + 1))


def is_word(kind, word):
    return any(describes(runs, word) for runs in kind.alternatives())


def runs_next(runs, at):
    """The indexes of the runs that can take a sign when all runs before `at` are done."""
    for index in range(at, len(runs)):
        yield index
        if runs[index][1] > 0:
            return


def places_next(rows, place):
    """The places after a place (alternative, run, sign of the run), or after None, the beginning."""
    if place is None:
        return {(one, run, 1) for one, runs in enumerate(rows) for run in runs_next(runs, 0)}
    one, run, taken = place
    least, most = rows[one][run][1:]
    found = set()
    if most is None and taken == max(least, 1):
        found.add(place)
    elif most is None or taken < most:
        found.add((one, run, taken + 1))
    if taken >= least:
        found.update((one, later, 1) for later in runs_next(rows[one], run + 1))
    return found


def number_of_lists(kind, longest, limit=10 ** 9):
    """How many different non-empty lists of places occur for texts of at most `longest` characters.

    The list of the empty text counts; the search stops beyond `limit`.
    """
    rows = kind.alternatives()
    signs = sorted({sign for runs in rows for signs, _, _ in runs for sign in signs})
    newest = {frozenset([None])}
    found = set(newest)
    for _ in range(longest):
        reached = set()
        for stand in newest:
            after = set().union(*(places_next(rows, place) for place in stand))
            for sign in signs:
                reached.add(frozenset(p for p in after if sign in rows[p[0]][p[1]][0]))
        newest = reached - found - {frozenset()}
        found |= newest
        if len(found) > limit or not newest:
            break
    return len(found)


def marked(pair, distance):
    """The words over two signs with the first one so many signs before the last sign.

    Just `2 ** (distance + 1)` lists of places occur for texts that are not empty.
    """
    return Kind.run(pair, 0, None) + Kind.run(pair[0]) + Kind.run(pair, distance, distance)


def exactly_1999():
    """A kind for which 1,999 lists occur, with the one of the empty text: 1 + 1024 + 512 + .. + 4 + 2."""
    kind = marked("ab", 9)
    for pair, distance in [("cd", 8), ("ef", 7), ("gh", 6), ("ij", 5), ("kl", 2), ("mn", 1)]:
        kind = kind | marked(pair, distance)
    return kind | Kind.run("op", 0, None) + Kind.run("o")


def random_kind(draw, signs, alternatives, runs, highest):
    """A kind drawn by `draw`, a random.Random."""
    rows = []
    for _ in range(draw.randint(1, alternatives)):
        row = None
        for _ in range(draw.randint(1, runs)):
            some = "".join(sign for sign in signs if draw.random() < 0.6) or signs[0]
            most = draw.choice([None, *range(1, highest + 1)])
            least = draw.randint(0, highest if most is None else most)
            run = Kind.run(some, least, most)
            row = run if row is None else row + run
        rows.append(row)
    kind = rows[0]
    for row in rows[1:]:
        kind = kind | row
    return kind
