"""Forms: how records are written as lines."""

from townlines.basics import is_integer_within
from townlines.errors import BadForm, BadNumber, Unknown
from townlines.items import MOST_PLACES, Mark, fields_in, joined
from townlines.layouts import check_lines, lines_holders, lines_net, owner_sets, row_with_mark, row_without
from townlines.nets import START, places_in
from townlines.spelling import parsed_lines, spelled_lines
from townlines.writing import piece_spans, written_pieces


class Form:
    """A row of lines, each a row of items. It never changes.

    Besides `lines` a form holds what is asked again and again: its `fields` in
    order, the `net` of its places, the `holders` of the places (the names of
    their fields, or None), and the `owner_sets`, tuples of an owner and the set
    of the places whose characters it owns, by ascending owners.
    """

    def __init__(self, lines):
        check_lines(lines)
        self.lines = tuple([joined(line) for line in lines])
        self.fields = tuple([field for line in self.lines for field in fields_in(line)])
        self.net = lines_net(self.lines)
        self.holders = tuple(lines_holders(self.lines))
        self.owner_sets = owner_sets(self.holders)

    @staticmethod
    def parse(text, kinds):
        """Return the form that is spelled so, with the kinds of its fields from the dict `kinds`."""
        return Form(parsed_lines(text, kinds))

    def __add__(self, other):
        return Form(self.lines + other.lines)

    def __eq__(self, other):
        return isinstance(other, Form) and self.lines == other.lines

    @property
    def may_be_empty(self):
        """Whether some record is written as the empty text."""
        return (self.net.exits & START) != 0

    def names(self):
        """Return the names of the fields in the order in which they stand."""
        return [field.name for field in self.fields]

    def with_mark(self, name, text):
        """Return the form with a mark of these signs directly before the field."""
        check_known(self, name)
        mark = Mark(text)
        if len(self.holders) + len(text) > MOST_PLACES:
            raise BadForm(-1)
        return Form([row_with_mark(line, name, mark) for line in self.lines])

    def without(self, name):
        """Return the form without the field, and without the groups and lines that it leaves empty."""
        check_known(self, name)
        rows = [row_without(line, name) for line in self.lines]
        return Form([row for row in rows if len(row) > 0])

    def write(self, record):
        """Return the text of the record."""
        return "".join([string for owner, string in written_pieces(self, record)])

    def owner_row(self, record):
        """Return the owner of each character of the text of the record."""
        return [owner for owner, string in written_pieces(self, record) for char in string]

    def spans(self, record):
        """Return a dict from the names of the record to the spans of their values in its text."""
        return piece_spans(written_pieces(self, record))

    def spelled(self):
        """Return the form as a string."""
        return spelled_lines(self.lines)

    def places(self):
        """Return a tuple (name or None, characters) for each place."""
        return list(zip(self.holders, self.net.chars))

    def firsts(self):
        """Return the places at which a walk can begin."""
        return places_in(self.net.follow[0])

    def lasts(self):
        """Return the places at which a walk can end."""
        return places_in(self.net.exits & ~START)

    def after(self, place):
        """Return the places that can directly follow this place in a walk."""
        if not is_integer_within(place, -1, len(self.holders) - 1):
            raise BadNumber(place)
        return places_in(self.net.follow[1 + place])


def check_known(form, name):
    """Raise Unknown(name) if the form has no field of this name."""
    if not isinstance(name, str) or name not in form.names():
        raise Unknown(name)
