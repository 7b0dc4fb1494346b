"""Texts with owners that one of two forms has and the other one has not.

The stands after characters with given owners, in the one form and in the
other, tell everything about what follows. A state is a tuple of two such
stands, not both empty; a level is a dict of states.
"""

from townlines.errors import TooLarge
from townlines.nets import START, places_after
from townlines.tallies import MOST_STANDS


class Split:
    """Two nets with the places of their owners.

    `owners` has tuples (owner, places of `one`, places of `other`) by
    ascending owners, and `groups` tuples (character, places of `one`, places
    of `other`) for the characters with their owners; of all characters with
    one owner that lead alike, a group has the least one.
    """

    def __init__(self, form, other_form):
        self.one = form.net
        self.other = other_form.net
        self.owners = paired_owners(form.owner_sets, other_form.owner_sets)
        self.groups = owned_groups(self.one, self.other, self.owners)


def paired_owners(owner_sets, other_owner_sets):
    """Return tuples of an owner of one form or both and its places in both."""
    places = dict(owner_sets)
    other_places = dict(other_owner_sets)
    names = merged(list(places), list(other_places))
    return [(name, places.get(name, 0), other_places.get(name, 0)) for name in names]


def merged(strings, others):
    """Return the different strings of both lists in ascending order."""
    return sorted(list({string: True for string in strings + others}))


def owned_groups(one, other, owners):
    """Return the groups of the characters with their owners, those with lesser characters first."""
    least = {}
    for char in merged(list(one.stands_for), list(other.stands_for))[::-1]:
        for owner, places, other_places in owners:
            here = one.stands_for.get(char, 0) & places
            there = other.stands_for.get(char, 0) & other_places
            if here or there:
                least[(here, there)] = char
    return sorted([(char, here, there) for (here, there), char in least.items()])


def ways_from(split, state):
    """Return a tuple of the places that can follow in both nets."""
    stand, other_stand = state
    return (places_after(split.one, stand), places_after(split.other, other_stand))


def parted_levels(split):
    """Return the list of levels up to the first one with a state that parts the forms.

    Each level has the states that are reached with so many characters and not
    with fewer. If no state parts the forms, the last level is empty.
    """
    level = {(START, START): True}
    known = {(START, START): True}
    levels = [level]
    while len(level) > 0 and len(parting_states(split, level)) == 0:
        reached = reached_states(split, level)
        level = {state: True for state in reached if state not in known}
        for state in level:
            known[state] = True
        if len(known) > MOST_STANDS:
            raise TooLarge()
        levels.append(level)
    return levels


def reached_states(split, level):
    """Return the states to which one character with an owner leads from the states of the level."""
    reached = {}
    for state in level:
        ways, other_ways = ways_from(split, state)
        for char, here, there in split.groups:
            if ways & here or other_ways & there:
                reached[(ways & here, other_ways & there)] = True
    return reached


def parting_states(split, level):
    """Return the states of the level in which just one of both forms can end."""
    found = {}
    for stand, other_stand in level:
        if bool(stand & split.one.exits) != bool(other_stand & split.other.exits):
            found[(stand, other_stand)] = True
    return found


def kept_levels(split, levels):
    """Return the levels without the states from which no steps lead through them to a parting state of the last."""
    goals = parting_states(split, levels[-1])
    kept = [goals]
    for level in reversed(list(levels[:-1])):
        goals = {state: True for state in level if leads_to(split, state, goals)}
        kept.append(goals)
    return kept[::-1]


def leads_to(split, state, goals):
    """Tell whether some character with an owner leads from the state to a goal."""
    return len(chars_to(split, state, goals)) > 0


def chars_to(split, state, goals):
    """Return the characters of groups that lead from the state to a goal."""
    ways, other_ways = ways_from(split, state)
    return [char for char, here, there in split.groups if (ways & here, other_ways & there) in goals]


def owned_steps(split, state, char):
    """Return tuples (owner, state) of the states to which the character leads, by ascending owners."""
    ways, other_ways = ways_from(split, state)
    ways = ways & split.one.stands_for.get(char, 0)
    other_ways = other_ways & split.other.stands_for.get(char, 0)
    return [(owner, (ways & here, other_ways & there)) for owner, here, there in split.owners]


def least_parted(split, levels):
    """Return the least text that parts the forms and the least owners with which it does so."""
    kept = kept_levels(split, levels)
    newest = kept[0]
    rows = [newest]
    text = ""
    for goals in kept[1:]:
        char = min([char for state in newest for char in chars_to(split, state, goals)])
        steps = [target for state in newest for owner, target in owned_steps(split, state, char)]
        newest = {target: True for target in steps if target in goals}
        rows.append(newest)
        text = text + char
    return (text, least_owners(split, text, rows))


def least_owners(split, text, rows):
    """Return the least owners with which the text leads to a state of the last row, through states of all rows."""
    kept = [rows[-1]]
    for at in reversed(range(len(text))):
        goals = kept[-1]
        kept.append({state: True for state in rows[at] if len(owners_to(split, state, text[at], goals)) > 0})
    kept = kept[::-1]
    found = []
    state = (START, START)
    for at, char in enumerate(text):
        owner, state = owners_to(split, state, char, kept[at + 1])[0]
        found.append(owner)
    return found


def owners_to(split, state, char, goals):
    """Return tuples (owner, goal) of the goals to which the character leads from the state, by ascending owners."""
    return [(owner, target) for owner, target in owned_steps(split, state, char) if target in goals]
