"""The least text into which the fewest changes turn a text.

While a text is turned into another one, a state tells how many of its
characters are done and at which place the walk of the other text stands. From
there the other text needs a number of changes to its end, and then a number of
characters; both together are the cost of the state: CHANGE for each change and
1 for each character, so that the fewest changes come first. Some changes and
characters kept are called a step if they write one character of the other
text; removals write none. A way is best if each of its states has just the
cost that is left.

A row tells the costs for all places after so many characters: a dict from
costs, in ascending order, to sets of places. A level is a dict from tuples
(characters done, cost) to sets of places.
"""

from townlines.edits import Ways, add_places, fewest
from townlines.nets import START, places_in, turned

# No text to which best ways lead has so many characters: they make at most 400 changes in a text of at most 400.
CHANGE = 1000


class Repair:
    """The best ways to turn a text into one that a net passes.

    `number` is the fewest changes, and `length` the number of characters of
    the least text. `rows` has the row for each number of characters done, and
    an empty one behind them; `fewest_left` has for each of the others the
    fewest changes that are left at some place.
    """

    def __init__(self, net, text):
        self.net = net
        self.text = text
        self.ways = Ways(net.follow)
        rows = rows_to_end(net, text)
        self.fewest_left = [min(list(row)) // CHANGE for row in rows]
        self.rows = rows + [{}]
        self.cost = fewest(rows[0], START)
        self.number = self.cost // CHANGE
        self.length = self.cost % CHANGE


def rows_to_end(net, text):
    """Return the row for each number of characters done."""
    back = Ways(turned(net.follow))
    rows = [with_insertions(back, {0: net.exits})]
    for char in text[::-1]:
        rows.append(row_before(back, rows[-1], net.stands_for.get(char, 0)))
    return rows[::-1]


def row_before(back, row, fitting):
    """Return the row for one character less done; the places that stand for this character are `fitting`."""
    found = {}
    for cost, places in row.items():
        add_places(found, cost + 1, back.targets_of(places & fitting))
        add_places(found, cost + CHANGE, places)
        add_places(found, cost + CHANGE + 1, back.targets_of(places))
    return with_insertions(back, found)


def with_insertions(back, costs):
    """Return the row in which each place has its least cost: one of `costs`, or one for which insertions come first."""
    row = {}
    known = 0
    waiting = dict(costs)
    given = sorted(list(costs), reverse=True)
    added = []
    while len(given) > 0 or len(added) > 0:
        cost = take_least(given, added)
        places = waiting[cost] & ~known
        add_places(row, cost, places)
        known = known | places
        sources = back.targets_of(places) & ~known
        longer = cost + CHANGE + 1
        if sources and longer not in waiting:
            added.append(longer)
        add_places(waiting, longer, sources)
    return row


def take_least(given, added):
    """Remove the least cost from the list that it ends, or from the list that it begins, and return it."""
    if len(added) == 0 or (len(given) > 0 and given[-1] < added[0]):
        return given.pop()
    return added.pop(0)


def with_removals(repair, level):
    """Return the level with the states to which removals lead from its states."""
    found = {}
    waiting = list(level.items())
    while len(waiting) > 0:
        key, places = waiting.pop()
        fresh = places & ~found.get(key, 0)
        add_places(found, key, fresh)
        at, cost = key
        removed = fresh & repair.rows[at + 1].get(cost - CHANGE, 0)
        if removed:
            waiting.append(((at + 1, cost - CHANGE), removed))
    return found


def kept_next(repair, level):
    """Return characters of the text that all best ways from the level keep next, or "" if none are found.

    A change leads to a state with one change less left, so there is none as
    long as no place has fewer changes left than the level.
    """
    if len(level) > 1:
        return ""
    at, cost = list(level)[0]
    left = [cost // CHANGE] * 2
    stop = at
    while repair.fewest_left[stop:stop + 2] == left:
        stop = stop + 1
    return repair.text[at:stop]


def level_behind(repair, level, kept):
    """Return the level to which best ways lead from the only states of the level when they keep the characters."""
    (at, cost), places = list(level.items())[0]
    for char in kept:
        places = repair.ways.targets_of(places) & repair.net.stands_for[char]
    key = (at + len(kept), cost - len(kept))
    return {key: places & repair.rows[key[0]][key[1]]}


def steps_from(repair, level):
    """Return tuples (character, key, places) of the states to which one step leads from the states of the level.

    The character is the one of the text that is kept, or "" if the step may
    write each character that the places stand for.
    """
    found = []
    for (at, cost), places in level.items():
        targets = repair.ways.targets_of(places)
        char = repair.text[at:at + 1]
        fitting = targets & repair.net.stands_for.get(char, 0)
        found.append((char, (at + 1, cost - 1), fitting))
        found.append(("", (at + 1, cost - CHANGE - 1), targets))
        found.append(("", (at, cost - CHANGE - 1), targets))
    best = [(char, key, places & repair.rows[key[0]].get(key[1], 0)) for char, key, places in found]
    return [(char, key, places) for char, key, places in best if places]


def least_char(repair, char, places):
    """Return the least character that a step may write."""
    if char != "":
        return char
    return min([repair.net.chars[place][0] for place in places_in(places)])


def states_with(repair, steps, char):
    """Return the states to which those of the steps lead that may write the character."""
    found = {}
    for kept, key, places in steps:
        if kept == "":
            add_places(found, key, places & repair.net.stands_for[char])
        elif kept == char:
            add_places(found, key, places)
    return found


def repaired(repair):
    """Return the least text into which the fewest changes turn the text."""
    result = ""
    level = {(0, repair.cost): START}
    while len(result) < repair.length:
        level = with_removals(repair, level)
        more = kept_next(repair, level)
        if more != "":
            level = level_behind(repair, level, more)
        else:
            steps = steps_from(repair, level)
            more = min([least_char(repair, char, places) for char, key, places in steps])
            level = states_with(repair, steps, more)
        result = result + more
    return result
