"""Places and the ways between them, as kinds, items and forms have them.

A set of places is held as an integer, because sets of places are joined and
compared very often: bit 0 stands for the place -1 (the beginning, before the
first character), and bit 1 + p for the place p.
"""

# The set that holds the place -1 only, and the one that holds all places.
START = 1
EVERYWHERE = -1

FEED = "\n"


class Net:
    """Places numbered from 0, and the ways that walks take through them.

    `chars[p]` is the string of the characters that the place p can stand for,
    `follow[1 + p]` the set of the places that can directly follow p, and
    `exits` the set of the places at which a walk can end; the place -1 is an
    exit if nothing at all may be passed. `stands_for` maps each character to
    the set of the places that can stand for it.
    """

    def __init__(self, chars, follow, exits):
        self.chars = chars
        self.follow = follow
        self.exits = exits
        self.stands_for = places_by_char(chars)


def places_by_char(chars):
    """Return a dict from each character to the set of the places that can stand for it."""
    # Many places share one string; each different string is spread out only once.
    by_string = {}
    for place, string in enumerate(chars):
        by_string[string] = by_string.get(string, 0) | (1 << (1 + place))
    by_char = {}
    for string, places in by_string.items():
        for char in string:
            by_char[char] = by_char.get(char, 0) | places
    return by_char


def place_count(least, most):
    """Return the number of places of a run of `least` to `most` signs."""
    if most is None:
        return max(least, 1)
    return most


def run_net(signs, least, most):
    """Return the net of a run; the place p is passed by the sign number p."""
    count = place_count(least, most)
    # Without an upper bound, each further sign passes the last place again.
    after_last = 1 << count if most is None else 0
    follow = [1 << (1 + taken) for taken in range(count)] + [after_last]
    exits = (1 << (count + 1)) - (1 << least)
    return Net([signs] * count, follow, exits)


def text_net(text):
    """Return the net with one walk, which passes a place for each character of `text`."""
    count = len(text)
    return Net(list(text), [1 << (1 + at) for at in range(count)] + [0], 1 << count)


def or_nothing(net):
    """Return the net whose walks are those of `net` and the one that passes nothing."""
    return Net(net.chars, net.follow, net.exits | START)


def renumbered(places, shift):
    """Return a set of places with each number raised by `shift`; -1 stays -1."""
    return ((places >> 1) << (1 + shift)) | (places & START)


def chained(nets):
    """Return the net whose walks are made of one walk of each net, one after the other."""
    chars = []
    follow = [0]
    exits = START
    for net in nets:
        shift = len(chars)
        first = renumbered(net.follow[0], shift)
        follow = [ways | first if (exits >> at) & 1 else ways for at, ways in enumerate(follow)]
        follow = follow + [renumbered(ways, shift) for ways in net.follow[1:]]
        # The exits so far remain exits only if this net can be passed without a character.
        earlier = exits if net.exits & START else 0
        exits = renumbered(net.exits & ~START, shift) | earlier
        chars = chars + net.chars
    return Net(chars, follow, exits)


def side_by_side(nets):
    """Return the net whose walks are the walks of all nets."""
    chars = []
    first = 0
    follow = []
    exits = 0
    for net in nets:
        shift = len(chars)
        first = first | renumbered(net.follow[0], shift)
        follow = follow + [renumbered(ways, shift) for ways in net.follow[1:]]
        exits = exits | renumbered(net.exits, shift)
        chars = chars + net.chars
    return Net(chars, [first] + follow, exits)


def line_added(above, line):
    """Return the net of the lines above and one line more, which begins with a place for its line feed."""
    shift = len(above.chars) + 1
    feed = 1 << shift
    inside = renumbered(line.follow[0], shift)
    # No line feed is written where nothing stands above; then the walk begins in the line itself.
    first = above.follow[0] | (inside if above.exits & START else 0)
    later = [ways | feed if (above.exits >> at) & 1 else ways for at, ways in enumerate(above.follow)][1:]
    follow = [first] + later + [inside] + [renumbered(ways, shift) for ways in line.follow[1:]]
    # The exits above remain exits only if this line can be left out.
    earlier = above.exits if line.exits & START else 0
    exits = renumbered(line.exits & ~START, shift) | earlier
    return Net(above.chars + [FEED] + line.chars, follow, exits)


def under_each_other(nets):
    """Return the net of lines, each of which is left out with its line feed if nothing of it is passed."""
    whole = nets[0]
    for net in nets[1:]:
        whole = line_added(whole, net)
    return whole


def indexes_in(stand):
    """Return the bits of a set as an ascending list of their indexes; the place p has the index 1 + p."""
    found = []
    rest = stand
    while rest:
        lowest = rest & -rest
        found.append(lowest.bit_length() - 1)
        rest = rest ^ lowest
    return found


def places_in(stand):
    """Return the places of a set as an ascending list."""
    return [at - 1 for at in indexes_in(stand)]


def together(ways, stand):
    """Return the union of those sets of the list `ways` whose indexes are in the set `stand`."""
    found = 0
    rest = stand
    while rest:
        lowest = rest & -rest
        found = found | ways[lowest.bit_length() - 1]
        rest = rest ^ lowest
    return found


def places_after(net, stand):
    """Return the set of the places that can directly follow some place of the set `stand`."""
    return together(net.follow, stand)


def places_before(net, goal):
    """Return the set of the places that some place of the set `goal` can directly follow."""
    found = 0
    for at, ways in enumerate(net.follow):
        if ways & goal:
            found = found | (1 << at)
    return found


def turned(ways):
    """Return the list of sets that leads back: each index is in the sets of all indexes that it leads to."""
    back = [0] * len(ways)
    for at, targets in enumerate(ways):
        for target in indexes_in(targets):
            back[target] = back[target] | (1 << at)
    return back


def stand_from(net, start, text):
    """Return the set of the places at which walks can stand that go on from the set `start` with `text`."""
    stand = start
    for char in text:
        stand = places_after(net, stand) & net.stands_for.get(char, 0)
        if stand == 0:
            return 0
    return stand


def stand_after(net, text):
    """Return the set of the places at which the beginning of a walk can stand after `text`."""
    return stand_from(net, START, text)


def takes(net, text):
    """Tell whether some walk of the net passes one place for each character of `text`."""
    return (stand_after(net, text) & net.exits) != 0


def stands_along(net, text, goal):
    """Return, for each number of characters, the set of the places at which walks that pass `text` stand.

    Only the walks that stand at a place of the set `goal` after the whole text count.
    """
    stands = [START]
    for char in text:
        stands.append(places_after(net, stands[-1]) & net.stands_for.get(char, 0))
    stands[-1] = stands[-1] & goal
    for at in reversed(range(len(text))):
        stands[at] = stands[at] & places_before(net, stands[at + 1])
    return stands


def whole_walk_stands(net, text):
    """Return the stands along the text of the walks that end with it."""
    return stands_along(net, text, net.exits)
