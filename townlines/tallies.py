"""Counting what the walks of a net pass.

A stand is the set of the places at which the beginnings of walks can stand
after some text. Each text has exactly one stand, so texts are counted by their
stands, without finding each of them. Records are counted in the same way, by
the stands after characters whose owners are given, too.

What is counted is told by groups: a list of tuples of a set of places and a
dict; the dict maps the different subsets that one more character can lead to
to the number of characters that lead to just this subset.
"""

from townlines.errors import TooLarge
from townlines.nets import EVERYWHERE, START, places_after

# So many different stands may occur.
MOST_STANDS = 2000


class Tally:
    """The stands of longer and longer texts, and the numbers of texts.

    `moves` maps the stands of all shorter texts to their moves, `newest` lists
    the other stands, and `numbers` maps the stands of the texts of just the
    present length to the numbers of these texts.
    """

    def __init__(self, net, groups):
        self.net = net
        self.groups = groups
        self.moves = {}
        self.newest = [START]
        self.numbers = {START: 1}

    def lengthen(self):
        """Go on to the texts with one character more."""
        for stand in self.newest:
            self.moves[stand] = moves_from(self.net, self.groups, stand)
        reached = {target: True for stand in self.newest for target in self.moves[stand]}
        self.newest = [target for target in reached if target not in self.moves]
        if len(self.moves) + len(self.newest) > MOST_STANDS:
            raise TooLarge()
        self.numbers = one_longer(self.moves, self.numbers)

    def ended(self):
        """Return the number of the texts of the present length at which walks end."""
        return sum([number for stand, number in self.numbers.items() if stand & self.net.exits])


def text_groups(net):
    """Return the groups by which texts are counted."""
    return [(EVERYWHERE, char_groups(net, EVERYWHERE))]


def owner_groups(net, owner_sets):
    """Return the groups by which texts with their owners are counted."""
    return [(owned, char_groups(net, owned)) for owner, owned in owner_sets]


def char_groups(net, owned):
    """Return a dict from subsets of `owned` to the number of characters that just these places stand for."""
    groups = {}
    for places in net.stands_for.values():
        here = places & owned
        if here:
            groups[here] = groups.get(here, 0) + 1
    return groups


def moves_from(net, groups, stand):
    """Return a dict from each next stand, the empty one left out, to its number of characters."""
    ways = places_after(net, stand)
    moves = {}
    for owned, parts in groups:
        if ways & owned:
            for places, number in parts.items():
                target = ways & places
                if target:
                    moves[target] = moves.get(target, 0) + number
    return moves


def one_longer(moves, numbers):
    """Return the numbers of texts by their stands after one more character."""
    longer = {}
    for stand, number in numbers.items():
        for target, ways in moves[stand].items():
            longer[target] = longer.get(target, 0) + number * ways
    return longer


def counted(net, groups, length):
    """Return the number of different rows of `length` steps of the groups that some walk passes."""
    tally = Tally(net, groups)
    for step in range(length):
        tally.lengthen()
    return tally.ended()


def count_texts(net, length):
    """Return the number of different texts of `length` characters that some walk passes."""
    return counted(net, text_groups(net), length)


def ending_numbers(tally, length):
    """Return, for 0 to `length` characters more, a dict from stands to the number of ways to end with so many.

    The tally has gone on to the length `length`; the stands that so many
    characters more would lead beyond this length are not counted for.
    """
    stands = list(tally.moves) + tally.newest
    found = [{stand: 1 for stand in stands if stand & tally.net.exits}]
    for step in range(length):
        fewer = found[-1]
        numbers = {}
        for stand, moves in tally.moves.items():
            number = sum([ways * fewer.get(target, 0) for target, ways in moves.items()])
            if number > 0:
                numbers[stand] = number
        found.append(numbers)
    return found
