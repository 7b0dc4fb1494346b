"""The fewest changes that turn texts into what the walks of a net pass.

A change inserts, removes or replaces one character. A row tells the fewest
changes for all places at once: a dict from numbers of changes, in ascending
order, to the sets of the places for which just so many are needed. The numbers
may be far apart, so rows are gone through by the numbers that they have.
"""

from townlines.nets import START, together


class Ways:
    """What ways lead to: the same sets of places are asked for again and again while a text is gone through."""

    def __init__(self, follow):
        self.follow = follow
        self.found = {}

    def targets_of(self, places):
        """Return the union of the sets to which the ways lead from the places."""
        if places not in self.found:
            self.found[places] = together(self.follow, places)
        return self.found[places]


def add_places(level, key, places):
    """Put the places into the set that the dict `level` has at the key; no empty set is put in."""
    if places:
        level[key] = level.get(key, 0) | places


def first_row(ways):
    """Return the row of the empty text: each character that a walk passes is inserted."""
    row = {}
    known = 0
    places = START
    while places:
        row[len(row)] = places
        known = known | places
        places = ways.targets_of(places) & ~known
    return row


def row_after(ways, row, fitting):
    """Return the row of a text with one character more; the places that stand for it are `fitting`."""
    longer = {}
    # The places whose fewest changes now are known, those that needed at most `number` before, and those
    # to which one change leads from the last number, so that they need at most `due`.
    known = 0
    earlier = 0
    changed = 0
    due = 0
    for number, places in row.items():
        if due < number:
            add_places(longer, due, changed & ~known)
            known = known | changed
        targets = ways.targets_of(places)
        earlier = earlier | places
        fresh = ((targets & fitting) | changed) & ~known
        add_places(longer, number, fresh)
        known = known | fresh
        # The character is replaced or removed. An insertion helps only behind a place that needs fewer changes
        # than before: otherwise the places behind it can stand for the character instead. Such a place needed
        # one change more before, so `row` has this next number, and nothing is inserted where it has a gap.
        changed = targets | places | ways.targets_of(fresh & ~earlier)
        due = number + 1
    add_places(longer, due, changed & ~known)
    return longer


def rows_from_start(net, text):
    """Return, for each beginning of the text, the row of its changes into what leads to the places."""
    ways = Ways(net.follow)
    rows = [first_row(ways)]
    for char in text:
        rows.append(row_after(ways, rows[-1], net.stands_for.get(char, 0)))
    return rows


def fewest(row, goal):
    """Return the fewest changes for some place of the set `goal`."""
    return min([number for number, places in row.items() if places & goal])
