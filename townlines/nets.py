"""Places and the ways between them, as kinds have them.

A set of places is held as an integer, because sets of places are joined and
compared very often: bit 0 stands for the place -1 (the beginning, before the
first character), and bit 1 + p for the place p.
"""

# The set that holds the place -1 only.
START = 1


class Net:
    """Places numbered from 0, and the ways that walks take through them.

    `chars[p]` is the string of the characters that the place p can stand for,
    `follow[1 + p]` the set of the places that can directly follow p, and
    `exits` the set of the places at which a walk can end; the place -1 is an
    exit if nothing at all may be passed. `stands_for` maps each character to
    the set of the places that can stand for it.
    """

    def __init__(self, chars, follow, exits):
        self.chars = chars
        self.follow = follow
        self.exits = exits
        self.stands_for = places_by_char(chars)


def places_by_char(chars):
    """Return a dict from each character to the set of the places that can stand for it."""
    # Many places share one string; each different string is spread out only once.
    by_string = {}
    for place, string in enumerate(chars):
        by_string[string] = by_string.get(string, 0) | (1 << (1 + place))
    by_char = {}
    for string, places in by_string.items():
        for char in string:
            by_char[char] = by_char.get(char, 0) | places
    return by_char


def place_count(least, most):
    """Return the number of places of a run of `least` to `most` signs."""
    if most is None:
        return max(least, 1)
    return most


def run_net(signs, least, most):
    """Return the net of a run; the place p is passed by the sign number p."""
    count = place_count(least, most)
    # Without an upper bound, each further sign passes the last place again.
    after_last = 1 << count if most is None else 0
    follow = [1 << (1 + taken) for taken in range(count)] + [after_last]
    exits = (1 << (count + 1)) - (1 << least)
    return Net([signs] * count, follow, exits)


def renumbered(places, shift):
    """Return a set of places with each number raised by `shift`; -1 stays -1."""
    return ((places >> 1) << (1 + shift)) | (places & START)


def chained(nets):
    """Return the net whose walks are made of one walk of each net, one after the other."""
    chars = []
    follow = [0]
    exits = START
    for net in nets:
        shift = len(chars)
        first = renumbered(net.follow[0], shift)
        follow = [ways | first if (exits >> at) & 1 else ways for at, ways in enumerate(follow)]
        follow = follow + [renumbered(ways, shift) for ways in net.follow[1:]]
        # The exits so far remain exits only if this net can be passed without a character.
        earlier = exits if net.exits & START else 0
        exits = renumbered(net.exits & ~START, shift) | earlier
        chars = chars + net.chars
    return Net(chars, follow, exits)


def side_by_side(nets):
    """Return the net whose walks are the walks of all nets."""
    chars = []
    first = 0
    follow = []
    exits = 0
    for net in nets:
        shift = len(chars)
        first = first | renumbered(net.follow[0], shift)
        follow = follow + [renumbered(ways, shift) for ways in net.follow[1:]]
        exits = exits | renumbered(net.exits, shift)
        chars = chars + net.chars
    return Net(chars, [first] + follow, exits)


def places_after(net, stand):
    """Return the set of the places that can directly follow some place of the set `stand`."""
    found = 0
    rest = stand
    while rest:
        lowest = rest & -rest
        found = found | net.follow[lowest.bit_length() - 1]
        rest = rest ^ lowest
    return found


def stand_after(net, text):
    """Return the set of the places at which the beginning of a walk can stand after `text`."""
    stand = START
    for char in text:
        stand = places_after(net, stand) & net.stands_for.get(char, 0)
        if stand == 0:
            return 0
    return stand


def takes(net, text):
    """Tell whether some walk of the net passes one place for each character of `text`."""
    return (stand_after(net, text) & net.exits) != 0
