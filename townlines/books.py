"""Books: the forms of several countries."""

from townlines.basics import is_integer_within, is_name, text_order
from townlines.characters import check_text
from townlines.disputes import differing_duel
from townlines.errors import BadName, BadNumber, NoForm, NotSingle, TooMany, Unknown
from townlines.forms import Form
from townlines.pairs import shared_text_duel, won_text
from townlines.readings import HIGHEST_MOST, first_owner_rows, owned_record


class Book:
    """Forms of countries by their names.

    `forms` maps the names to the forms, and `limit` is the greatest number of
    readings that `read` returns.
    """

    def __init__(self, forms=None, *, most=100):
        given = {} if forms is None else forms
        for name in sorted(list(given)):
            check_form(name, given[name])
        check_most(most)
        self.forms = dict(given)
        self.limit = most

    def __setitem__(self, at, worth):
        check_form(at, worth)
        self.forms[at] = worth

    def __getitem__(self, at):
        if at not in self:
            raise Unknown(at)
        return self.forms[at]

    def __iter__(self):
        raise TypeError("a book is not iterated over")

    def __contains__(self, x):
        return isinstance(x, str) and x in self.forms

    def __len__(self):
        return len(self.forms)

    def __eq__(self, other):
        return isinstance(other, Book) and self.forms == other.forms

    def __ior__(self, other):
        for name in other.names():
            self[name] = other[name]
        return self

    @property
    def most(self):
        """The greatest number of readings that `read` returns."""
        return self.limit

    def names(self):
        """Return the names of the countries in ascending order."""
        return sorted(list(self.forms))

    def drop(self, name):
        """Take the form of this name out of the book."""
        if name not in self:
            raise Unknown(name)
        del self.forms[name]

    def copy(self):
        """Return a new book with the same forms and the same limit."""
        return Book(self.forms, most=self.limit)

    def set_most(self, number):
        """Set the greatest number of readings that `read` returns."""
        check_most(number)
        self.limit = number

    def read(self, text):
        """Return the tuples (name, record) of the readings of the text for all forms, in order."""
        check_text(text)
        found = first_read(self, text, self.limit + 1)
        if len(found) > self.limit:
            raise TooMany()
        return found

    def twice(self):
        """Return the least text with two such tuples and its first two tuples, or None."""
        text = least_read_twice(self)
        if text is None:
            return None
        first, second = first_read(self, text, 2)
        return (text, first, second)

    def single(self):
        """Tell whether no text has two such tuples."""
        return least_read_twice(self) is None

    def keep_single(self, deed):
        """Call `deed` with the book and return what it returns; after an error the book holds its former forms again.

        It is an error, too, if the book is not single then.
        """
        restored = dict(self.forms)
        try:
            result = deed(self)
            text = least_read_twice(self)
            if text is not None:
                raise NotSingle(text)
            restored = self.forms
        finally:
            self.forms = restored
        return result


def check_form(name, form):
    """Raise BadName or NoForm if a book cannot hold this form by this name."""
    if not is_name(name):
        raise BadName(name)
    if not isinstance(form, Form):
        raise NoForm(name)


def check_most(number):
    """Raise BadNumber(number) if a book cannot have this limit."""
    if not is_integer_within(number, 1, HIGHEST_MOST):
        raise BadNumber(number)


def first_read(book, text, most):
    """Return the first tuples (name, record) of the readings of the text, at most `most`."""
    found = []
    for name in book.names():
        rows = first_owner_rows(book[name], text, most - len(found))
        found.extend([(name, owned_record(row, text)) for row in rows])
    return found


def least_read_twice(book):
    """Return the least text with two readings for one form or for two of them, or None."""
    forms = [book[name] for name in book.names()]
    duels = [differing_duel(form) for form in forms]
    for at, form in enumerate(forms):
        duels.extend([shared_text_duel(form.net, other.net) for other in forms[:at]])
    won = [won_text(duel) for duel in duels]
    return min([found[0] for found in won if found is not None], key=text_order, default=None)
