"""Comparing two forms: texts that both read, that only one reads, or that they read differently."""

from townlines.basics import is_integer_within
from townlines.errors import NotWithin
from townlines.inclusion import Chase, beyond_levels, is_closed, least_beyond
from townlines.nets import places_in
from townlines.pairs import shared_text_duel, won_text
from townlines.partings import Split, least_parted, parted_levels


def both(one, other):
    """Return the least text that is readable for both forms, or None."""
    won = won_text(shared_text_duel(one.net, other.net))
    if won is None:
        return None
    text, levels = won
    return text


def beyond(one, other):
    """Return the least text that is readable for `one` and not for `other`, or None."""
    chase = Chase(one.net, other.net)
    levels, known = beyond_levels(chase)
    if len(levels[-1]) == 0:
        return None
    return least_beyond(chase, levels)


def parted(one, other):
    """Return the least text with owners in just one of both forms, and the least such owners, or None."""
    split = Split(one, other)
    levels = parted_levels(split)
    if len(levels[-1]) == 0:
        return None
    return least_parted(split, levels)


def within_certificate(one, other):
    """Return the tuples (place of `one`, stand in `other`) that some text leads to, if `other` reads all of `one`."""
    chase = Chase(one.net, other.net)
    levels, known = beyond_levels(chase)
    if len(levels[-1]) > 0:
        raise NotWithin(least_beyond(chase, levels))
    stands = sorted([(places_in(stand), places) for stand, places in known.items()])
    found = []
    for at in range(len(one.net.follow)):
        found.extend([(at - 1, list(stand)) for stand, places in stands if (places >> at) & 1])
    return found


def is_within_certificate(one, other, thing):
    """Tell whether `thing` shows that `other` reads all texts that `one` reads."""
    last = len(one.holders) - 1
    other_last = len(other.holders) - 1
    if not isinstance(thing, list) or not all([is_entry(entry, last, other_last) for entry in thing]):
        return False
    given = {}
    # The same stand comes with many places.
    sets = {}
    for place, stand in thing:
        key = tuple(stand)
        if key not in sets:
            sets[key] = sum([1 << (1 + other_place) for other_place in stand])
        given[sets[key]] = given.get(sets[key], 0) | (1 << (1 + place))
    return is_closed(Chase(one.net, other.net), given)


def is_entry(thing, last, other_last):
    """Tell whether `thing` is a tuple of a place up to `last` and an ascending list of places up to `other_last`."""
    if not isinstance(thing, tuple) or len(thing) != 2:
        return False
    place, stand = thing
    return is_integer_within(place, -1, last) and is_stand(stand, other_last)


def is_stand(thing, last):
    """Tell whether `thing` is an ascending list of places up to `last`."""
    if not isinstance(thing, list) or not all([isinstance(place, int) for place in thing]):
        return False
    if any([isinstance(place, bool) for place in thing]):
        return False
    if not all([low < high for low, high in zip(thing, thing[1:])]):
        return False
    return len(thing) == 0 or (thing[0] >= -1 and thing[-1] <= last)
