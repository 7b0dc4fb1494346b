"""Mending texts with mistakes by the fewest changes."""

from townlines.basics import is_integer
from townlines.characters import check_text
from townlines.edits import fewest, rows_from_start
from townlines.nets import indexes_in
from townlines.repairs import Repair, repaired


def slips(form, text):
    """Return the fewest changes that turn the text into a readable text."""
    check_text(text)
    return fewest(rows_from_start(form.net, text)[-1], form.net.exits)


def mended(form, text):
    """Return the fewest changes and the least readable text into which so many turn the text."""
    check_text(text)
    repair = Repair(form.net, text)
    return (repair.number, repaired(repair))


def slips_certificate(form, text):
    """Return the fewest changes and, for each beginning of the text and each place, the fewest that lead there."""
    check_text(text)
    rows = rows_from_start(form.net, text)
    return (fewest(rows[-1], form.net.exits), [entries(row, len(form.net.follow)) for row in rows])


def is_slips_certificate(form, text, thing):
    """Tell whether `thing` shows that no fewer changes than its number turn the text into a readable text."""
    check_text(text)
    if not isinstance(thing, tuple) or len(thing) != 2:
        return False
    number, table = thing
    size = len(form.net.follow)
    if not is_integer(number) or not isinstance(table, list) or len(table) != len(text) + 1:
        return False
    if not all([is_integer_list(row, size) for row in table]) or table[0][0] > 0:
        return False
    ways = [indexes_in(targets) for targets in form.net.follow]
    if not all([are_close(row, row, ways, 1) for row in table]):
        return False
    for at, char in enumerate(text):
        if not is_next_row(form.net, ways, table[at], table[at + 1], char):
            return False
    return all([number <= table[-1][at] for at in indexes_in(form.net.exits)])


def entries(row, size):
    """Return the numbers of changes of a row as a list with one entry for -1 and for each place."""
    found = [0] * size
    for number, places in row.items():
        for at in indexes_in(places):
            found[at] = number
    return found


def is_integer_list(thing, size):
    """Tell whether `thing` is a list of so many integers."""
    return isinstance(thing, list) and len(thing) == size and all([is_integer(entry) for entry in thing])


def are_close(row, other_row, ways, more):
    """Tell whether each way leads from an entry of `row` to entries of `other_row` that are at most `more` greater."""
    for entry, targets in zip(row, ways):
        if any([other_row[target] > entry + more for target in targets]):
            return False
    return True


def is_next_row(net, ways, row, next_row, char):
    """Tell whether `next_row` may follow `row` in a table where the text has this character."""
    if any([after > before + 1 for before, after in zip(row, next_row)]):
        return False
    places = net.stands_for.get(char, 0)
    kept = [[target for target in targets if (places >> target) & 1] for targets in ways]
    return are_close(row, next_row, ways, 1) and are_close(row, next_row, kept, 0)
