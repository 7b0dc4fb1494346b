"""Reading texts place by place: what is readable, and what can follow."""

from townlines.characters import check_text
from townlines.errors import NoReading
from townlines.nets import FEED, START, places_after, places_before, places_in, stand_after, takes
from townlines.signs import Signs


def reads(form, text):
    """Tell whether the text is written for some record."""
    check_text(text)
    return takes(form.net, text)


def ends(form, text):
    """Return the places at which the beginning of a walk can stand after the text."""
    check_text(text)
    return places_in(stand_after(form.net, text))


def next_signs(form, text):
    """Return a tuple (signs, feed, end) of what can follow the text in a readable text.

    `signs` is the Signs that can follow it, `feed` tells whether the line feed
    can follow it, and `end` whether the text itself is readable.
    """
    check_text(text)
    net = form.net
    stand = stand_after(net, text)
    # Every place stands in some walk, so each beginning of a walk can be completed.
    if stand == 0:
        raise NoReading()
    chars = next_chars(net, places_after(net, stand))
    signs = Signs("".join([char for char in chars if char != FEED]))
    return (signs, FEED in chars, (stand & net.exits) != 0)


def completion(form, text):
    """Return the least readable text that begins with the text, or None."""
    check_text(text)
    stand = stand_after(form.net, text)
    if stand == 0:
        return None
    return text + least_ending(form.net, stand)


def least_text(form):
    """Return the least readable text."""
    return least_ending(form.net, START)


def next_chars(net, ways):
    """Return the list of the characters that the places of the set `ways` can stand for."""
    return [char for char, places in net.stands_for.items() if places & ways]


def least_ending(net, stand):
    """Return the least string with which a walk that stands at a place of the set `stand` can end."""
    goals = goals_from(net, stand)
    ending = ""
    for left in reversed(range(len(goals) - 1)):
        ways = places_after(net, stand) & goals[left]
        char = min(next_chars(net, ways))
        ending = ending + char
        stand = ways & net.stands_for[char]
    return ending


def goals_from(net, stand):
    """Return the sets of the places at which a walk can end after 0, 1, 2 .. characters more.

    The last one is the first that has a place of the set `stand`.
    """
    goals = [net.exits]
    while (goals[-1] & stand) == 0:
        goals.append(places_before(net, goals[-1]))
    return goals
