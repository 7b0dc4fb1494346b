"""Lines of items: their checks, their places, and lines with a mark more or a field less."""

from townlines.basics import is_row
from townlines.errors import BadForm
from townlines.items import MOST_PLACES, Field, Mark, Maybe, fields_in, has_own_field, is_item, item_size, row_size
from townlines.nets import chained, or_nothing, text_net, under_each_other

MOST_LINES = 10
MOST_FIELDS = 12


def check_lines(lines):
    """Raise BadForm if a form cannot have these lines."""
    if not is_row(lines) or not 1 <= len(lines) <= MOST_LINES:
        raise BadForm(-1)
    seen = {}
    for at, line in enumerate(lines):
        if not is_item_row(line):
            raise BadForm(at)
        for field in fields_in(line):
            if field.name in seen:
                raise BadForm(at)
            seen[field.name] = True
    if len(seen) > MOST_FIELDS or lines_size(lines) > MOST_PLACES:
        raise BadForm(-1)


def is_item_row(thing):
    """Tell whether `thing` is a row of one or more items."""
    return is_row(thing) and len(thing) > 0 and all([is_item(item) for item in thing])


def lines_size(lines):
    """Return the number of places of lines; each but the first has one for its line feed."""
    return len(lines) - 1 + sum([row_size(line) for line in lines])


def lines_net(lines):
    """Return the net of the lines of a form."""
    return under_each_other([row_net(line) for line in lines])


def row_net(row):
    """Return the net of a row of items."""
    return chained([item_net(item) for item in row])


def item_net(item):
    """Return the net of an item."""
    if isinstance(item, Field):
        return item.kind.net
    if isinstance(item, Mark):
        return text_net(item.text)
    return or_nothing(row_net(item.parts))


def lines_holders(lines):
    """Return, for each place of lines, the name of the field that it belongs to, or None."""
    holders = row_holders(lines[0])
    for line in lines[1:]:
        holders = holders + [None] + row_holders(line)
    return holders


def row_holders(row):
    """Return, for each place of a row of items, the name of the field that it belongs to, or None."""
    holders = []
    for item in row:
        if isinstance(item, Maybe):
            holders.extend(row_holders(item.parts))
        else:
            name = item.name if isinstance(item, Field) else None
            holders.extend([name] * item_size(item))
    return holders


def owner_sets(holders):
    """Return tuples of owners, ascending, and the sets of the places whose characters they own."""
    sets = {}
    for place, name in enumerate(holders):
        owner = "" if name is None else name
        sets[owner] = sets.get(owner, 0) | (1 << (1 + place))
    return tuple([(owner, sets[owner]) for owner in sorted(list(sets))])


def row_with_mark(row, name, mark):
    """Return the row of items with the mark directly before the field of this name."""
    made = []
    for item in row:
        if isinstance(item, Maybe):
            made.append(Maybe(row_with_mark(item.parts, name, mark)))
        elif isinstance(item, Field) and item.name == name:
            made.extend([mark, item])
        else:
            made.append(item)
    return made


def row_without(row, name):
    """Return the row of items without the field of this name and the groups that it leaves without a field."""
    made = []
    for item in row:
        if isinstance(item, Maybe):
            parts = row_without(item.parts, name)
            if has_own_field(parts):
                made.append(Maybe(parts))
        elif not isinstance(item, Field) or item.name != name:
            made.append(item)
    return made
