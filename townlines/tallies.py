"""Counting the texts that the walks of a net pass.

A stand is the set of the places at which the beginnings of walks can stand
after some text. Each text has exactly one stand, so texts are counted by their
stands, without finding each of them.
"""

from townlines.errors import TooLarge
from townlines.nets import START, places_after

# So many different stands may occur.
MOST_STANDS = 2000


def count_texts(net, length):
    """Return the number of different texts of `length` characters that some walk passes."""
    moves = moves_by_stand(net, length)
    numbers = {START: 1}
    for step in range(length):
        numbers = one_longer(moves, numbers)
    return sum([number for stand, number in numbers.items() if stand & net.exits])


def moves_by_stand(net, length):
    """Return a dict from the stands of the texts of less than `length` characters to their moves."""
    groups = char_groups(net)
    moves = {}
    found = {START: True}
    newest = [START]
    for step in range(length):
        reached = {}
        for stand in newest:
            moves[stand] = moves_from(net, groups, stand)
            for target in moves[stand]:
                reached[target] = True
        newest = [stand for stand in reached if stand not in found]
        for stand in newest:
            found[stand] = True
        if len(found) > MOST_STANDS:
            raise TooLarge()
    return moves


def char_groups(net):
    """Return a dict from sets of places to the number of characters that just these stand for."""
    groups = {}
    for places in net.stands_for.values():
        groups[places] = groups.get(places, 0) + 1
    return groups


def moves_from(net, groups, stand):
    """Return a dict from each next stand, the empty one left out, to its number of characters."""
    ways = places_after(net, stand)
    moves = {}
    for places, number in groups.items():
        target = ways & places
        if target:
            moves[target] = moves.get(target, 0) + number
    return moves


def one_longer(moves, numbers):
    """Return the numbers of texts by their stands after one more character."""
    longer = {}
    for stand, number in numbers.items():
        for target, ways in moves[stand].items():
            longer[target] = longer.get(target, 0) + number * ways
    return longer
