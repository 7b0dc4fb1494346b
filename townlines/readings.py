"""The readings of a text.

Different readings have different owners, so readings are found and counted as
rows of owners. Some owners of the first characters of a text lead to one set
of places only: those at which walks of the whole text stand that have passed
these characters with these owners.
"""

from townlines.basics import is_integer_within
from townlines.characters import check_text
from townlines.errors import BadNumber, NoReading, NotSingle, TooMany
from townlines.nets import START, places_after, whole_walk_stands

HIGHEST_MOST = 1000


def count_readings(form, text):
    """Return the number of readings of the text."""
    check_text(text)
    stands = whole_walk_stands(form.net, text)
    numbers = first_stand(stands)
    for moves in owner_moves(form, stands):
        longer = {}
        for stand, number in numbers.items():
            for owner, target in moves[stand]:
                longer[target] = longer.get(target, 0) + number
        numbers = longer
    return sum(list(numbers.values()))


def readings(form, text, *, most=100):
    """Return the readings of the text in the order of readings, at most `most`."""
    check_text(text)
    if not is_integer_within(most, 1, HIGHEST_MOST):
        raise BadNumber(most)
    rows = first_owner_rows(form, text, most + 1)
    if len(rows) > most:
        raise TooMany()
    return [owned_record(row, text) for row in rows]


def only_reading(form, text):
    """Return the only reading of the text."""
    check_text(text)
    rows = first_owner_rows(form, text, 2)
    if len(rows) == 0:
        raise NoReading()
    if len(rows) > 1:
        raise NotSingle(text)
    return owned_record(rows[0], text)


def owners(form, text):
    """Return, for each character of the text, the owners that it has in the readings, ascending."""
    check_text(text)
    stands = whole_walk_stands(form.net, text)
    if stands[0] == 0:
        raise NoReading()
    return shares_of(form, stands)


def sure(form, text):
    """Return a dict of the fields that have the same span in all readings, with their values."""
    return sole_values(form, text, owners(form, text))


def shares_of(form, stands):
    """Return, for each stand behind the first one, the owners of its places, ascending."""
    return [[owner for owner, places in form.owner_sets if places & stand] for stand in stands[1:]]


def sole_values(form, text, shares):
    """Return a dict from names to values of the fields that are the only owners wherever they are owners."""
    found = {}
    for name in form.names():
        spots = [at for at, share in enumerate(shares) if name in share]
        if len(spots) > 0 and all([len(shares[at]) == 1 for at in spots]):
            found[name] = text[spots[0]:spots[-1] + 1]
    return found


def first_stand(stands):
    """Return a dict from the stand before the first character to 1; it is empty if there is no reading."""
    return {START: 1} if stands[0] else {}


def owner_moves(form, stands):
    """Return, for each character, a dict from stands to tuples (owner, next stand), by ascending owners.

    `stands` are those of the walks of the whole text; from each stand that
    occurs here some reading can be completed.
    """
    found = []
    # The same stands occur again and again in a long text.
    ways = {}
    newest = list(first_stand(stands))
    for allowed in stands[1:]:
        for stand in newest:
            if stand not in ways:
                ways[stand] = places_after(form.net, stand)
        moves = {stand: parted_by_owners(form, ways[stand] & allowed) for stand in newest}
        newest = list({target: True for rows in moves.values() for owner, target in rows})
        found.append(moves)
    return found


def parted_by_owners(form, ways):
    """Return tuples (owner, places of this owner) of the places of the set `ways`."""
    return [(owner, ways & places) for owner, places in form.owner_sets if ways & places]


def first_owner_rows(form, text, most):
    """Return the owners of the first readings of the text, at most `most` of them, in the order of readings."""
    stands = whole_walk_stands(form.net, text)
    newest = list(first_stand(stands))[:most]
    levels = []
    for moves in owner_moves(form, stands):
        # Each of the rows so far leads to a reading, so no more of them than `most` are needed.
        steps = [(at, owner, target) for at, stand in enumerate(newest) for owner, target in moves[stand]][:most]
        levels.append([(at, owner) for at, owner, target in steps])
        newest = [target for at, owner, target in steps]
    return [traced_row(levels, last) for last in range(len(newest))]


def traced_row(levels, last):
    """Return the row of owners that ends with the entry `last` of the last level."""
    row = []
    at = last
    for level in levels[::-1]:
        at, owner = level[at]
        row.append(owner)
    return row[::-1]


def owned_record(row, text):
    """Return the record that owns the characters of the text so."""
    record = {}
    for owner, char in zip(row, text):
        if owner != "":
            record[owner] = record.get(owner, "") + char
    return record
