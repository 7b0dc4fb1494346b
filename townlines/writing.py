"""Writing records: the pieces of a text with their owners."""

from townlines.characters import LONGEST_TEXT
from townlines.errors import BadValue, Missing, TooLarge, Unknown
from townlines.items import Field, Mark, fields_in
from townlines.nets import FEED


def written_pieces(form, record):
    """Return the tuples (owner, string) that make up the text of the record, in order."""
    check_record(form, record)
    pieces = []
    for line in form.lines:
        written = row_pieces(line, record)
        if len(written) > 0 and len(pieces) > 0:
            pieces.append(("", FEED))
        pieces.extend(written)
    if sum([len(string) for owner, string in pieces]) > LONGEST_TEXT:
        raise TooLarge()
    return pieces


def check_record(form, record):
    """Raise Unknown, Missing or BadValue if the form cannot write the record."""
    names = form.names()
    for key in sorted(list(record)):
        if key not in names:
            raise Unknown(key)
    for line in form.lines:
        for name in missing_names(line, record):
            raise Missing(name)
    for field in form.fields:
        if field.name in record and record[field.name] not in field.kind:
            raise BadValue(field.name)


def missing_names(row, record):
    """Return the names of the fields that the record lacks in a row of items that it needs."""
    found = []
    for item in row:
        if isinstance(item, Field):
            if item.name not in record:
                found.append(item.name)
        elif not isinstance(item, Mark) and has_some_field(item.parts, record):
            found.extend(missing_names(item.parts, record))
    return found


def has_some_field(row, record):
    """Tell whether the record has a field that stands anywhere in the row of items."""
    return any([field.name in record for field in fields_in(row)])


def row_pieces(row, record):
    """Return the tuples (owner, string) that a row of items writes."""
    pieces = []
    for item in row:
        if isinstance(item, Field):
            pieces.append((item.name, record[item.name]))
        elif isinstance(item, Mark):
            pieces.append(("", item.text))
        elif has_some_field(item.parts, record):
            pieces.extend(row_pieces(item.parts, record))
    return pieces


def piece_spans(pieces):
    """Return a dict from the names of the written fields to their spans (start, stop)."""
    spans = {}
    start = 0
    for owner, string in pieces:
        stop = start + len(string)
        if owner != "":
            spans[owner] = (start, stop)
        start = stop
    return spans
