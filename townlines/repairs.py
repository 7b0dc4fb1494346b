"""The least text into which the fewest changes turn a text.

While a text is turned into another one, a state tells how many of its
characters are done, at which place the walk of the other text stands, and how
many changes were made. A level is a dict from tuples (characters, changes) to
sets of places. Some changes and characters kept are called a step if they
write one character of the other text; removals write none.
"""

from townlines.edits import add_places, fewest, rows_from_start, rows_to_end
from townlines.nets import START, places_in, together, turned


class Repair:
    """The best ways to turn a text into one that a net passes.

    `number` is the fewest changes, `best` the level of the states on the ways
    with so many changes, and `back` has the ways of the net backwards.
    """

    def __init__(self, net, text):
        self.net = net
        self.text = text
        self.back = turned(net.follow)
        rows = rows_from_start(net, text)
        self.number = fewest(rows[-1], net.exits)
        self.best = shared_states(rows, rows_to_end(net, self.back, text), self.number)


def shared_states(rows, other_rows, number):
    """Return the level of the states whose changes so far and to the end are `number` together."""
    best = {}
    for at, row in enumerate(rows):
        for changes, places in row.items():
            add_places(best, (at, changes), places & other_rows[at].get(number - changes, 0))
    return best


def add_best(repair, level, key, places):
    """Put those of the places into the level that are on best ways."""
    add_places(level, key, places & repair.best.get(key, 0))


def before_step(repair, level):
    """Return the states from which one step leads to the states of the level."""
    found = {}
    for (at, changes), places in level.items():
        sources = together(repair.back, places)
        add_best(repair, found, (at, changes - 1), sources)
        add_best(repair, found, (at - 1, changes - 1), sources)
        if at > 0:
            kept = places & repair.net.stands_for.get(repair.text[at - 1], 0)
            add_best(repair, found, (at - 1, changes), together(repair.back, kept))
    return found


def with_removals(repair, level, shift):
    """Return the level with the states to which removals lead: on from its states, or back for the shift -1."""
    found = {}
    waiting = list(level.items())
    while len(waiting) > 0:
        key, places = waiting.pop()
        fresh = places & ~found.get(key, 0)
        add_places(found, key, fresh)
        at, changes = key
        target = (at + shift, changes + shift)
        if fresh & repair.best.get(target, 0):
            waiting.append((target, fresh & repair.best[target]))
    return found


def goals_by_rest(repair):
    """Return the levels of the states from which just 0, 1, 2 .. steps, and not fewer, lead to the end."""
    end = (len(repair.text), repair.number)
    level = with_removals(repair, {end: repair.best[end] & repair.net.exits}, -1)
    known = {key: places for key, places in level.items()}
    levels = [level]
    while (known.get((0, 0), 0) & START) == 0:
        sources = without(before_step(repair, level), known)
        level = without(with_removals(repair, sources, -1), known)
        for key, places in level.items():
            add_places(known, key, places)
        levels.append(level)
    return levels


def without(level, known):
    """Return the states of the level that are not known."""
    return {key: places & ~known.get(key, 0) for key, places in level.items() if places & ~known.get(key, 0)}


def within(level, goal):
    """Return the states of the level that are among the goals."""
    return {key: places & goal[key] for key, places in level.items() if places & goal.get(key, 0)}


def steps_to(repair, level, goal):
    """Return tuples (character, key, places) of the goals to which one step leads from the states of the level.

    The character is the one of the text that is kept, or "" if the step may
    write each character that the places stand for.
    """
    found = []
    for (at, changes), places in level.items():
        ways = together(repair.net.follow, places)
        if at < len(repair.text):
            char = repair.text[at]
            found.append((char, (at + 1, changes), ways & repair.net.stands_for.get(char, 0)))
            found.append(("", (at + 1, changes + 1), ways))
        found.append(("", (at, changes + 1), ways))
    return [(char, key, ways & goal[key]) for char, key, ways in found if ways & goal.get(key, 0)]


def least_char(repair, char, places):
    """Return the least character that a step may write."""
    if char != "":
        return char
    return min([repair.net.chars[place][0] for place in places_in(places)])


def states_with(repair, steps, char):
    """Return the states to which those of the steps lead that may write the character."""
    found = {}
    for kept, key, places in steps:
        if kept == "":
            add_places(found, key, places & repair.net.stands_for[char])
        elif kept == char:
            add_places(found, key, places)
    return found


def repaired(repair):
    """Return the least text into which the fewest changes turn the text."""
    levels = goals_by_rest(repair)
    level = within(with_removals(repair, {(0, 0): START}, 1), levels[-1])
    chars = []
    for goal in reversed(list(levels[:-1])):
        steps = steps_to(repair, level, goal)
        least = min([least_char(repair, char, places) for char, key, places in steps])
        level = within(with_removals(repair, states_with(repair, steps, least), 1), goal)
        chars.append(least)
    return "".join(chars)
