"""Forms spelled as strings, and the rows of items that such strings stand for."""

from townlines.basics import is_name
from townlines.errors import BadForm
from townlines.items import DEEPEST_GROUP, MOST_PLACES, Field, Mark, Maybe, has_own_field, is_field_kind, item_size
from townlines.layouts import MOST_LINES
from townlines.signs import is_sign

BACKSLASH = "\\"
SPECIAL_SIGNS = ("{", "}", "[", "]", "\\")

# The sorts of tokens.
SIGN = 0
NAME = 1
BEGIN = 2
END = 3


def spelled_lines(lines):
    """Return lines of items as a string."""
    return "\n".join([spelled_row(line) for line in lines])


def spelled_row(row):
    """Return a row of items as a string."""
    return "".join([spelled_item(item) for item in row])


def spelled_item(item):
    """Return an item as a string."""
    if isinstance(item, Field):
        return "{" + item.name + "}"
    if isinstance(item, Mark):
        return "".join([BACKSLASH + sign if sign in SPECIAL_SIGNS else sign for sign in item.text])
    return "[" + spelled_row(item.parts) + "]"


def parsed_lines(text, kinds):
    """Return the rows of items that are spelled so; the fields have the kinds of the dict `kinds`."""
    lines = text.split("\n")
    if len(lines) > MOST_LINES:
        raise BadForm(-1)
    seen = {}
    drafts = [line_draft(line, at, kinds, seen) for at, line in enumerate(lines)]
    # Groups are made only now: if one of them is too large, that is an error of the whole form.
    if len(lines) - 1 + sum([draft_size(draft) for draft in drafts]) > MOST_PLACES:
        raise BadForm(-1)
    return [made_row(draft) for draft in drafts]


def line_draft(line, at, kinds, seen):
    """Return the draft of a line: a list of fields, marks and, for groups, drafts.

    `at` is the index of the line. The names of the fields are put into the dict `seen`.
    """
    drafts = [[]]
    for sort, signs in line_tokens(line, at):
        if sort == BEGIN:
            drafts.append([])
        elif sort == END:
            close_group(drafts, at)
        elif sort == NAME:
            drafts[-1].append(named_field(signs, at, kinds, seen))
        else:
            drafts[-1].append(Mark(signs))
        if len(drafts) > 1 + DEEPEST_GROUP:
            raise BadForm(at)
    if len(drafts) > 1 or len(drafts[0]) == 0:
        raise BadForm(at)
    return drafts[0]


def close_group(drafts, at):
    """Put the innermost group into the row around it."""
    group = drafts.pop()
    if len(drafts) == 0 or not has_own_field(group):
        raise BadForm(at)
    drafts[-1].append(group)


def named_field(name, at, kinds, seen):
    """Return the field of this name, which stands in the line number `at`."""
    if not is_name(name) or name in seen or not is_field_kind(kinds.get(name)):
        raise BadForm(at)
    seen[name] = True
    return Field(name, kinds[name])


def line_tokens(line, at):
    """Return the tokens of the line number `at` as tuples (sort, signs)."""
    tokens = []
    start = 0
    while start < len(line):
        sort, signs, start = next_token(line, start, at)
        tokens.append((sort, signs))
    return tokens


def next_token(line, start, at):
    """Return a tuple of the sort and the signs of the token at index `start`, and of the index behind it."""
    sign = line[start]
    if not is_sign(sign) or sign == "}":
        raise BadForm(at)
    if sign == BACKSLASH:
        escaped = line[start + 1:start + 2]
        if escaped not in SPECIAL_SIGNS:
            raise BadForm(at)
        return (SIGN, escaped, start + 2)
    if sign == "{":
        stop = line.find("}", start)
        if stop < 0:
            raise BadForm(at)
        return (NAME, line[start + 1:stop], stop + 1)
    if sign == "[":
        return (BEGIN, sign, start + 1)
    if sign == "]":
        return (END, sign, start + 1)
    return (SIGN, sign, start + 1)


def draft_size(draft):
    """Return the number of places of a draft."""
    return sum([draft_size(part) if isinstance(part, list) else item_size(part) for part in draft])


def made_row(draft):
    """Return the row of items of a draft."""
    return [Maybe(made_row(part)) if isinstance(part, list) else part for part in draft]
