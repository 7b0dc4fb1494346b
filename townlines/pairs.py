"""Pairs of walks that pass the same text, and the least texts with such pairs.

Two walks go side by side, each in a net of its own or both in one. What can
happen to them depends on a state only: the place of the first walk, the place
of the second one, and whether they have gone unlike ways so far. A level is a
dict of states; its keys are `2 * index + unlike`, with the index 1 + p of the
place p of the first walk and 1 for walks that have gone unlike ways, otherwise
0; its values are the sets of the places of the second walk. A state in which
both walks can end after unlike ways is final.

On the least text with a final state, the walks are after each number of steps
in states that cannot be reached with fewer steps, as otherwise a shorter text
would have one. So it is enough to know, for each number of steps, the states
that are reached for the first time.
"""

from townlines.nets import START, indexes_in, places_in, together, turned

# The keys of the state before the first character.
ALIKE_START = 0
UNLIKE_START = 1


class Track:
    """Some of the steps that two walks can take together.

    `firsts_on` and `seconds_on` tell where the two walks can go from the place
    with an index: lists of indexes for the first walk, sets for the second.
    `firsts_back` and `seconds_back` tell the same backwards. `meets` has for
    the index of each place of the first walk the set of the places that the
    second walk can step to at the same time.
    """

    def __init__(self, ways, other_ways, meets):
        self.firsts_on = [indexes_in(targets) for targets in ways]
        self.seconds_on = other_ways
        self.firsts_back = [indexes_in(sources) for sources in turned(ways)]
        self.seconds_back = turned(other_ways)
        self.meets = meets


class Duel:
    """What two walks, in the nets `one` and `other`, can do together.

    `likes` has for the index of each place of the first walk the set of the
    places to which the second walk goes a like way. The two walks begin in the
    state with the key `start`.
    """

    def __init__(self, one, other, tracks, likes, start):
        self.one = one
        self.other = other
        self.tracks = tracks
        self.likes = likes
        self.start = start


def meeting_places(one, other):
    """Return, for the index of each place of `one`, the places of `other` that share a character with it."""
    by_string = {}
    for string in one.chars:
        if string not in by_string:
            by_string[string] = 0
            for char in string:
                by_string[string] = by_string[string] | other.stands_for.get(char, 0)
    return [0] + [by_string[string] for string in one.chars]


def shared_text_duel(one, other):
    """Return the duel that is won by a text that both nets pass."""
    meets = meeting_places(one, other)
    return Duel(one, other, [Track(one.follow, other.follow, meets)], [0] * len(meets), UNLIKE_START)


def add_states(level, key, others):
    """Put the states of this key with these places of the second walk into the level."""
    if others:
        level[key] = level.get(key, 0) | others


def steps_from(duel, level):
    """Return the states to which one step leads from the states of the level."""
    reached = {}
    for key, others in level.items():
        at, unlike = divmod(key, 2)
        for track in duel.tracks:
            ways = together(track.seconds_on, others)
            for target in track.firsts_on[at]:
                met = ways & track.meets[target]
                if unlike:
                    add_states(reached, 2 * target + 1, met)
                elif met:
                    add_states(reached, 2 * target, met & duel.likes[target])
                    add_states(reached, 2 * target + 1, met & ~duel.likes[target])
    return reached


def steps_back(duel, level, goals):
    """Return those states of the level from which one step leads to one of the goals."""
    found = {}
    for key, others in goals.items():
        target, unlike = divmod(key, 2)
        for track in duel.tracks:
            met = others & track.meets[target]
            before = together(track.seconds_back, met)
            # A way becomes unlike by an unlike step; it stays alike by like ones only.
            turning = together(track.seconds_back, met & ~duel.likes[target]) if unlike else before
            for at in track.firsts_back[target]:
                add_states(found, 2 * at, turning & level.get(2 * at, 0))
                if unlike:
                    add_states(found, 2 * at + 1, before & level.get(2 * at + 1, 0))
    return found


def shared_states(level, other_level):
    """Return the states that are in both levels."""
    found = {}
    for key, others in level.items():
        add_states(found, key, others & other_level.get(key, 0))
    return found


def final_states(duel, level):
    """Return the final states of the level."""
    found = {}
    for key, others in level.items():
        at, unlike = divmod(key, 2)
        if unlike and (duel.one.exits >> at) & 1:
            add_states(found, key, others & duel.other.exits)
    return found


def new_states(known, reached):
    """Return the states that are reached and not known, and put them into the level `known`."""
    level = {}
    for key, others in reached.items():
        add_states(level, key, others & ~known.get(key, 0))
    for key, others in level.items():
        add_states(known, key, others)
    return level


def explored(duel):
    """Return a tuple of the list of levels up to the first one with a final state, and of all their states.

    Each level has the states that are reached with so many steps and not with
    fewer. If there is no final state, the last level is empty.
    """
    level = {duel.start: START}
    known = {duel.start: START}
    levels = [level]
    while len(level) > 0 and len(final_states(duel, level)) == 0:
        level = new_states(known, steps_from(duel, level))
        levels.append(level)
    return (levels, known)


def is_won(duel):
    """Tell whether there is a text with a final state."""
    levels, known = explored(duel)
    return len(levels[-1]) > 0


def kept_levels(duel, levels):
    """Return the levels without the states from which no steps lead through them to a final state of the last one."""
    kept = [final_states(duel, levels[-1])]
    for level in reversed(list(levels[:-1])):
        kept.append(steps_back(duel, level, kept[-1]))
    return kept[::-1]


def won_text(duel):
    """Return the least text with a final state, with the levels of its walks, or None if there is none.

    The levels have only states of pairs of walks that pass the whole text and end in a final state.
    """
    levels, known = explored(duel)
    if len(levels[-1]) == 0:
        return None
    goals = kept_levels(duel, levels)
    chosen = [goals[0]]
    chars = []
    for goal in goals[1:]:
        reached = shared_states(steps_from(duel, chosen[-1]), goal)
        char = min([least_shared_char(duel, key, others) for key, others in reached.items()])
        chars.append(char)
        chosen.append(states_with_char(duel, reached, char))
    return ("".join(chars), kept_levels(duel, chosen))


def least_shared_char(duel, key, others):
    """Return the least character for which the first place stands and one of the second places."""
    chars = duel.one.chars[key // 2 - 1]
    return min([char for char in chars if others & duel.other.stands_for.get(char, 0)])


def states_with_char(duel, level, char):
    """Return those states of the level whose two places stand for the character."""
    found = {}
    places = duel.one.stands_for[char]
    for key, others in level.items():
        if (places >> (key // 2)) & 1:
            add_states(found, key, others & duel.other.stands_for[char])
    return found


def closed_lists(known):
    """Return a tuple of the pairs of places in the known states after like ways, and after unlike ones, ascending."""
    found = ([], [])
    for key in sorted(list(known)):
        at, unlike = divmod(key, 2)
        found[unlike].extend([(at - 1, place) for place in places_in(known[key])])
    return found
