"""The fewest marks that part the readings of a form."""

from townlines.disputes import first_dispute, unparted_duel
from townlines.errors import TooLarge
from townlines.forms import check_known
from townlines.pairs import is_won
from townlines.verdicts import is_twice

# So many fields a form may have whose fewest marks are looked for.
MOST_FIELDS = 8


def told_apart(form, first, second):
    """Return the names of the fields that one record lacks or that start at different indexes in both texts."""
    spans = form.spans(first)
    other_spans = form.spans(second)
    return [name for name in form.names() if field_start(spans, name) != field_start(other_spans, name)]


def parted_by(form, names):
    """Return the least text with two different readings that the names do not part and the first pair, or None."""
    for name in names:
        check_known(form, name)
    return first_dispute(form, unparted_duel(form, names))


def fewest_marks(form):
    """Return the least of the shortest lists of names that part all different readings of one text."""
    names, pairs = marks_certificate(form)
    return names


def marks_certificate(form):
    """Return a tuple of the fewest marks and of pairs of readings that no fewer names part."""
    check_few_fields(form)
    pairs = []
    told = []
    # Names that leave a pair unparted are left out at once, and a list of names that part all
    # pairs found so far either parts all pairs or leads to one more pair.
    for names in name_lists(form.names()):
        if all([is_shared(names, others) for others in told]):
            found = parted_by(form, names)
            if found is None:
                break
            text, first, second = found
            pairs.append(found)
            told.append(told_apart(form, first, second))
    return (names, pairs)


def is_marks_certificate(form, thing):
    """Tell whether `thing` is a tuple of names that part all readings and of pairs that no fewer names part."""
    check_few_fields(form)
    if not isinstance(thing, tuple) or len(thing) != 2:
        return False
    names, pairs = thing
    if not isinstance(names, list) or not isinstance(pairs, list) or not are_field_names(form, names):
        return False
    if not all([is_twice(form, pair) for pair in pairs]):
        return False
    told = {}
    for text, first, second in pairs:
        told[tuple(told_apart(form, first, second))] = True
    for fewer in name_lists(form.names()):
        if len(fewer) < len(names) and all([is_shared(fewer, others) for others in told]):
            return False
    return not is_won(unparted_duel(form, names))


def field_start(spans, name):
    """Return the index at which the field starts, or None if there is no such field."""
    if name not in spans:
        return None
    start, stop = spans[name]
    return start


def check_few_fields(form):
    """Raise TooLarge() if the form has too many fields for a search of its fewest marks."""
    if len(form.fields) > MOST_FIELDS:
        raise TooLarge()


def are_field_names(form, names):
    """Tell whether the list has names of fields of the form only, and none twice."""
    known = form.names()
    if not all([isinstance(name, str) and name in known for name in names]):
        return False
    return len({name: True for name in names}) == len(names)


def name_lists(names):
    """Return all lists of these names in their order: the shorter ones first, then by their indexes."""
    rows = [[]]
    for last in range(len(names)):
        rows = rows + [row + [last] for row in rows]
    return [[names[at] for at in row] for row in sorted(rows, key=row_order)]


def row_order(row):
    """Return the key by which lists of indexes are ordered: the shorter one first."""
    return (len(row), row)


def is_shared(names, others):
    """Tell whether some name is in both rows."""
    return any([name in others for name in names])
