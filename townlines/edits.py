"""The fewest changes that turn texts into what the walks of a net pass.

A change inserts, removes or replaces one character. A row tells the fewest
changes for all places at once: a dict from numbers of changes to the sets of
the places for which just so many are needed.
"""

from townlines.nets import START, together


def add_places(level, key, places):
    """Put the places into the set that the dict `level` has at the key; no empty set is put in."""
    if places:
        level[key] = level.get(key, 0) | places


def settled(ways, row):
    """Return the row in which each place has its fewest changes, if each step of the ways takes one change more."""
    found = {}
    known = 0
    pushed = 0
    number = min(list(row))
    last = max(list(row))
    while number <= last or pushed:
        places = (row.get(number, 0) | pushed) & ~known
        add_places(found, number, places)
        known = known | places
        pushed = together(ways, places) & ~known
        number = number + 1
    return found


def row_after(net, row, char):
    """Return the row of a text that is one character longer."""
    longer = {}
    for number, places in row.items():
        ways = together(net.follow, places)
        add_places(longer, number, ways & net.stands_for.get(char, 0))
        # The character is replaced, or removed.
        add_places(longer, number + 1, ways | places)
    return settled(net.follow, longer)


def rows_from_start(net, text):
    """Return, for each beginning of the text, the row of its changes into what leads to the places."""
    rows = [settled(net.follow, {0: START})]
    for char in text:
        rows.append(row_after(net, rows[-1], char))
    return rows


def row_before(net, back, row, char):
    """Return the row of an end of a text that is one character longer; the ways `back` lead backwards."""
    longer = {}
    for number, places in row.items():
        add_places(longer, number, together(back, places & net.stands_for.get(char, 0)))
        add_places(longer, number + 1, together(back, places) | places)
    return settled(back, longer)


def rows_to_end(net, back, text):
    """Return, for each end of the text, the row of its changes into what leads from the places to an end."""
    rows = [settled(back, {0: net.exits})]
    for char in text[::-1]:
        rows.append(row_before(net, back, rows[-1], char))
    return rows[::-1]


def fewest(row, goal):
    """Return the fewest changes for some place of the set `goal`."""
    return min([number for number, places in row.items() if places & goal])
