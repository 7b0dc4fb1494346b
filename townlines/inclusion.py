"""Texts of one net that another net does not pass.

The stand of a text in the net `other` tells everything about what follows it
there, so texts are looked for among tuples of a place of `one` and a stand of
`other`. A level is a dict from stands to sets of such places.
"""

from townlines.errors import TooLarge
from townlines.nets import START, indexes_in, places_after
from townlines.tallies import MOST_STANDS


class Chase:
    """The nets `one` and `other`, and the `groups` of the characters that the places of `one` stand for.

    A group is a tuple (character, places of `one`, places of `other`); it has
    the least character of all that just these places stand for, and groups
    with lesser characters come first.
    """

    def __init__(self, one, other):
        self.one = one
        self.other = other
        self.groups = paired_groups(one, other)


def paired_groups(one, other):
    """Return the groups of the characters that the places of `one` stand for."""
    least = {}
    for char in sorted(list(one.stands_for), reverse=True):
        least[(one.stands_for[char], other.stands_for.get(char, 0))] = char
    return sorted([(char, places, others) for (places, others), char in least.items()])


def beyond_levels(chase):
    """Return a tuple of the list of levels up to the first one with a text beyond, and of all their tuples.

    Each level has the tuples that are reached with so many characters and not
    with fewer. If there is no text beyond, the last level is empty.
    """
    level = {START: START}
    known = {START: START}
    levels = [level]
    while len(level) > 0 and len(beyond_states(chase, level)) == 0:
        level = new_states(known, reached_states(chase, level))
        if len(known) > MOST_STANDS:
            raise TooLarge()
        levels.append(level)
    return (levels, known)


def reached_states(chase, level):
    """Return the tuples to which one character leads from the tuples of the level."""
    reached = {}
    for stand, places in level.items():
        ways = places_after(chase.one, places)
        other_ways = places_after(chase.other, stand)
        for char, group, other_group in chase.groups:
            if ways & group:
                target = other_ways & other_group
                reached[target] = reached.get(target, 0) | (ways & group)
    return reached


def new_states(known, reached):
    """Return the tuples that are reached and not known, and put them into the dict `known`."""
    level = {}
    for stand, places in reached.items():
        fresh = places & ~known.get(stand, 0)
        if fresh:
            level[stand] = fresh
            known[stand] = known.get(stand, 0) | fresh
    return level


def beyond_states(chase, level):
    """Return the tuples of the level whose place can end while no place of their stand can."""
    found = {}
    for stand, places in level.items():
        if places & chase.one.exits and (stand & chase.other.exits) == 0:
            found[stand] = places & chase.one.exits
    return found


def least_beyond(chase, levels):
    """Return the least text beyond, whose length is the number of the last level."""
    kept = [beyond_states(chase, levels[-1])]
    for level in reversed(list(levels[:-1])):
        kept.append(states_before(chase, level, kept[-1]))
    text = ""
    stand = START
    places = START
    for goals in kept[::-1][1:]:
        char, stand, places = least_step(chase, stand, places, goals)
        text = text + char
    return text


def states_before(chase, level, goals):
    """Return those tuples of the level from which one character leads to a goal."""
    found = {}
    for stand, places in level.items():
        wanted = 0
        other_ways = places_after(chase.other, stand)
        for char, group, other_group in chase.groups:
            wanted = wanted | (group & goals.get(other_ways & other_group, 0))
        leading = [at for at in indexes_in(places) if chase.one.follow[at] & wanted]
        if len(leading) > 0:
            found[stand] = sum([1 << at for at in leading])
    return found


def least_step(chase, stand, places, goals):
    """Return the least character that leads to a goal from these places with this stand, and where it leads."""
    ways = places_after(chase.one, places)
    other_ways = places_after(chase.other, stand)
    for char, group, other_group in chase.groups:
        target = other_ways & other_group
        reached = ways & group & goals.get(target, 0)
        if reached:
            return (char, target, reached)
    return ("", 0, 0)


def is_closed(chase, given):
    """Tell whether each character leads from each of the given tuples to a given one, and none is beyond."""
    if (given.get(START, 0) & START) == 0 or len(beyond_states(chase, given)) > 0:
        return False
    reached = reached_states(chase, given)
    return all([(places & ~given.get(stand, 0)) == 0 for stand, places in reached.items()])
