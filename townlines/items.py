"""The items that lines are made of: fields, marks and groups that may be left out."""

from townlines.basics import is_name, is_row
from townlines.errors import BadItem, BadKind, BadName, BadSigns
from townlines.kinds import Kind
from townlines.signs import is_sign_text

LONGEST_MARK = 200
DEEPEST_GROUP = 3
MOST_PLACES = 200


class Field:
    """A field of this name, which holds a word of this kind. It never changes."""

    def __init__(self, name, kind):
        if not is_name(name):
            raise BadName(name)
        if not is_field_kind(kind):
            raise BadKind()
        self.name = name
        self.kind = kind

    def __eq__(self, other):
        return isinstance(other, Field) and self.name == other.name and self.kind == other.kind


class Mark:
    """Fixed signs. It never changes."""

    def __init__(self, text):
        if not is_sign_text(text) or not 1 <= len(text) <= LONGEST_MARK:
            raise BadSigns()
        self.text = text

    def __eq__(self, other):
        return isinstance(other, Mark) and self.text == other.text


class Maybe:
    """A group of items that may be left out. It never changes."""

    def __init__(self, parts):
        if not is_row(parts) or len(parts) == 0:
            raise BadItem(-1)
        for at, part in enumerate(parts):
            if not is_item(part):
                raise BadItem(at)
        if not has_own_field(parts) or depth_around(parts) > DEEPEST_GROUP or row_size(parts) > MOST_PLACES:
            raise BadItem(-1)
        self.parts = joined(parts)

    def __eq__(self, other):
        return isinstance(other, Maybe) and self.parts == other.parts


def is_field_kind(thing):
    """Tell whether `thing` is a kind that a field may have."""
    return isinstance(thing, Kind) and not thing.has_empty


def is_item(thing):
    """Tell whether `thing` is an item."""
    return isinstance(thing, (Field, Mark, Maybe))


def has_own_field(row):
    """Tell whether a field stands directly in the row of items."""
    return any([isinstance(item, Field) for item in row])


def fields_in(row):
    """Return the fields of a row of items in their order, also those in groups."""
    found = []
    for item in row:
        if isinstance(item, Field):
            found.append(item)
        elif isinstance(item, Maybe):
            found.extend(fields_in(item.parts))
    return found


def depth_around(parts):
    """Return how deep a group of these parts is; without inner groups it is 1 deep."""
    return 1 + max([depth_around(part.parts) for part in parts if isinstance(part, Maybe)], default=0)


def item_size(item):
    """Return the number of places of an item."""
    if isinstance(item, Field):
        return len(item.kind.net.chars)
    if isinstance(item, Mark):
        return len(item.text)
    return row_size(item.parts)


def row_size(row):
    """Return the number of places of a row of items."""
    return sum([item_size(item) for item in row])


def joined(row):
    """Return a row of items as a tuple in which marks that stand side by side are one mark."""
    made = []
    for item in row:
        if isinstance(item, Mark) and len(made) > 0 and isinstance(made[-1], Mark):
            made[-1] = Mark(made[-1].text + item.text)
        else:
            made.append(item)
    return tuple(made)
