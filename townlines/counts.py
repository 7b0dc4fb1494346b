"""Counting and numbering the readable texts and the records of a form."""

from townlines.basics import is_integer, is_integer_within
from townlines.characters import check_text
from townlines.errors import BadNumber, NoReading, TooLarge
from townlines.nets import START, places_after, places_before, takes
from townlines.tallies import Tally, count_texts, counted, ending_numbers, owner_groups, text_groups

# So many characters a text may have that is counted or numbered.
LONGEST_COUNTED = 60


def texts(form, length):
    """Return the number of readable texts with this many characters."""
    check_length(length)
    return count_texts(form.net, length)


def records(form, length):
    """Return the number of records that are written as texts with this many characters."""
    check_length(length)
    # Different records differ in their texts or in the owners of the characters.
    return counted(form.net, owner_groups(form.net, form.owner_sets), length)


def text_at(form, number):
    """Return the readable text with this number in the order of texts."""
    if not is_integer(number) or number < 0:
        raise BadNumber(number)
    tally = Tally(form.net, text_groups(form.net))
    rest = number
    for length in range(LONGEST_COUNTED + 1):
        if length > 0:
            tally.lengthen()
        here = tally.ended()
        if rest < here:
            return ranked_text(tally, length, rest)
        rest = rest - here
    raise BadNumber(number)


def number_of(form, text):
    """Return the number of the readable text in the order of texts."""
    check_text(text)
    if not takes(form.net, text):
        raise NoReading()
    if len(text) > LONGEST_COUNTED:
        raise TooLarge()
    tally = Tally(form.net, text_groups(form.net))
    shorter = 0
    for step in range(len(text)):
        shorter = shorter + tally.ended()
        tally.lengthen()
    return shorter + rank_of(tally, text)


def all_texts(form, longest):
    """Find the readable texts with at most `longest` characters one by one, in the order of texts."""
    check_length(longest)
    goals = [form.net.exits]
    for length in range(longest):
        goals.append(places_before(form.net, goals[-1]))
    for length in range(longest + 1):
        if goals[length] & START:
            yield from texts_with_length(form.net, goals, length)


def check_length(length):
    """Raise BadNumber(length) if no texts of this length are counted."""
    if not is_integer_within(length, 0, LONGEST_COUNTED):
        raise BadNumber(length)


def texts_with_length(net, goals, length):
    """Find the readable texts of this length one by one in ascending order.

    `goals` are the sets of the places at which a walk can end after 0, 1, 2 ..
    characters more; there is at least one such text.
    """
    # The tuples (beginning of texts, its stand) that are still to be gone on with, the least one last.
    waiting = [("", START)]
    while waiting:
        text, stand = waiting.pop()
        if len(text) == length:
            yield text
        else:
            ways = places_after(net, stand) & goals[length - len(text) - 1]
            for char in chars_downwards(net):
                if ways & net.stands_for[char]:
                    waiting.append((text + char, ways & net.stands_for[char]))


def chars_upwards(net):
    """Return the characters of a net in ascending order."""
    return sorted(list(net.stands_for))


def chars_downwards(net):
    """Return the characters of a net in descending order."""
    return chars_upwards(net)[::-1]


def ranked_text(tally, length, rank):
    """Return the readable text that has this rank, counted from 0, among those of this length."""
    numbers = ending_numbers(tally, length)
    chars = chars_upwards(tally.net)
    text = ""
    stand = START
    rest = rank
    for left in reversed(range(length)):
        ways = places_after(tally.net, stand)
        for char in chars:
            here = numbers[left].get(ways & tally.net.stands_for[char], 0)
            if rest < here:
                text = text + char
                break
            rest = rest - here
        stand = ways & tally.net.stands_for[text[-1]]
    return text


def rank_of(tally, text):
    """Return the number of the readable texts that have the length of this one and are less than it."""
    numbers = ending_numbers(tally, len(text))
    chars = chars_upwards(tally.net)
    rank = 0
    stand = START
    for at, char in enumerate(text):
        ways = places_after(tally.net, stand)
        fewer = numbers[len(text) - 1 - at]
        for less in chars:
            if less < char:
                rank = rank + fewer.get(ways & tally.net.stands_for[less], 0)
        stand = ways & tally.net.stands_for[char]
    return rank
