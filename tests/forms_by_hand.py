"""What the document says of forms, walks and readings, worked out slowly and plainly, and forms to try."""

import itertools
import random

from by_hand import is_word, random_kind, strings
from townlines.forms import Form
from townlines.items import Field, Mark, Maybe
from townlines.kinds import Kind


def words(kind, longest):
    signs = sorted({sign for runs in kind.alternatives() for run in runs for sign in run[0]})
    return [word for word in strings(signs, longest) if is_word(kind, word)]


def field_names(row):
    """The names of the fields of a row of items, also those in groups."""
    names = []
    for item in row:
        if isinstance(item, Field):
            names.append(item.name)
        elif isinstance(item, Maybe):
            names += field_names(item.parts)
    return names


def own_names(row):
    return [item.name for item in row if isinstance(item, Field)]


# Records and their texts (points 19 to 21).

def row_written(row, record):
    """A list of tuples (owner, character)."""
    written = []
    for item in row:
        if isinstance(item, Field):
            written += [(item.name, char) for char in record[item.name]]
        elif isinstance(item, Mark):
            written += [("", char) for char in item.text]
        elif own_names(item.parts)[0] in record:
            written += row_written(item.parts, record)
    return written


def written(form, record):
    whole = []
    for line in form.lines:
        row = row_written(line, record)
        if row and whole:
            whole.append(("", "\n"))
        whole += row
    return whole


def text_of(form, record):
    return "".join(char for _, char in written(form, record))


def owners_of(form, record):
    return [owner for owner, _ in written(form, record)]


def row_records(row, longest, found_words):
    """Tuples (record, number of characters) of all records of a row that write at most `longest` characters."""
    found = [({}, 0)]
    for item in row:
        if isinstance(item, Mark):
            choices = [({}, len(item.text))]
        elif isinstance(item, Field):
            choices = [({item.name: word}, len(word)) for word in found_words[item.name]]
        else:
            choices = [({}, 0), *row_records(item.parts, longest, found_words)]
        found = [({**one, **two}, m + n) for one, m in found for two, n in choices if m + n <= longest]
    return found


def all_fields(row):
    for item in row:
        if isinstance(item, Field):
            yield item
        elif isinstance(item, Maybe):
            yield from all_fields(item.parts)


def records(form, longest):
    """All records that are written as texts of at most `longest` characters."""
    found_words = {field.name: words(field.kind, longest) for line in form.lines for field in all_fields(line)}
    found = [({}, 0)]
    for line in form.lines:
        choices = row_records(line, longest, found_words)
        found = [({**one, **two}, m + n + (m > 0 < n)) for one, m in found for two, n in choices
                 if m + n + (m > 0 < n) <= longest]
    return [record for record, _ in found]


def readings_by_text(form, longest):
    """A dict from the readable texts to the rows (owners, record) of their readings, in the order of readings."""
    found = {}
    for record in records(form, longest):
        found.setdefault(text_of(form, record), []).append((owners_of(form, record), record))
    return {text: sorted(rows, key=lambda row: row[0]) for text, rows in found.items()}


# Places and walks (points 24 to 28).

def row_places(row):
    places = []
    for item in row:
        if isinstance(item, Field):
            for runs in item.kind.alternatives():
                for signs, least, most in runs:
                    places += [(item.name, signs)] * (max(least, 1) if most is None else most)
        elif isinstance(item, Mark):
            places += [(None, sign) for sign in item.text]
        else:
            places += row_places(item.parts)
    return places


def places(form):
    found = row_places(form.lines[0])
    for line in form.lines[1:]:
        found += [(None, "\n"), *row_places(line)]
    return found


def field_walks(kind, place):
    """The walks through a field whose places begin with `place`, and the place behind them.

    Each run without an upper bound passes its last place at most twice; that is enough to see what can follow what.
    """
    walks = []
    for runs in kind.alternatives():
        choices = []
        for _, least, most in runs:
            count = max(least, 1) if most is None else most
            highest = count + 1 if most is None else most
            choices.append([tuple(place + min(at, count - 1) for at in range(number))
                            for number in range(least, highest + 1)])
            place += count
        walks += [sum(row, ()) for row in itertools.product(*choices)]
    return walks, place


def row_walks(row, place):
    walks = [()]
    for item in row:
        if isinstance(item, Field):
            choices, place = field_walks(item.kind, place)
        elif isinstance(item, Mark):
            choices, place = [tuple(range(place, place + len(item.text)))], place + len(item.text)
        else:
            inner, place = row_walks(item.parts, place)
            choices = [(), *inner]
        walks = [one + two for one in walks for two in choices]
    return walks, place


def form_walks(form):
    """Walks that show everything that can follow anything."""
    whole, place = row_walks(form.lines[0], 0)
    for line in form.lines[1:]:
        feed = (place,)
        inner, place = row_walks(line, place + 1)
        whole = [one + (feed if one and two else ()) + two for one in whole for two in inner]
    return whole


class Walks:
    """What the walks of a form tell of its places."""

    def __init__(self, form):
        self.places = places(form)
        walks = form_walks(form)
        self.after = {place: set() for place in range(-1, len(self.places))}
        for walk in walks:
            for one, two in zip((-1, *walk), walk):
                self.after[one].add(two)
        self.before = {place: {one for one, targets in self.after.items() if place in targets} for place in self.after}
        self.lasts = {walk[-1] for walk in walks if walk}
        self.may_be_empty = () in walks

    def step(self, stand, char):
        reached = set().union(*(self.after[place] for place in stand))
        return frozenset(place for place in reached if char in self.places[place][1])

    def ends(self, text):
        stand = frozenset([-1])
        for char in text:
            stand = self.step(stand, char)
        return stand

    def can_end(self, stand):
        return bool(stand & self.lasts) or (-1 in stand and self.may_be_empty)

    def reads(self, text):
        return self.can_end(self.ends(text))

    def least_from(self, text):
        """The least text that begins with `text`, found by trying longer and longer ones, or None."""
        signs = sorted({char for _, chars in self.places for char in chars})
        newest = {self.ends(text): text}
        for _ in range(len(self.places) + 1):
            readable = [longer for stand, longer in newest.items() if self.can_end(stand)]
            if readable:
                return min(readable)
            reached = {}
            for stand, longer in newest.items():
                for char in signs:
                    target = self.step(stand, char)
                    reached[target] = min(reached.get(target, longer + char), longer + char)
            reached.pop(frozenset(), None)
            newest = reached
        return None


# Forms to try.

ONE = Kind.run("a")
FREE = Kind.run("ab", 1, None)
TWO = Kind.run("ab", 1, 2)
TAIL = Kind.run("a", 0, 1) + Kind.run("b")
SOME = Kind.words(["a", "ab", "ba"])
EITHER = Kind.run("a", 0, None) + Kind.run("ab", 1, 2) | Kind.words(["bb"])
LONG = Kind.run("b", 2, None)
THREE = Kind.run("a", 0, 2) + Kind.run("b", 0, 1) + Kind.run("a", 1, None)
SAME = Kind.run("ab", 0, None) + Kind.run("ab", 0, None) + Kind.run("b") | Kind.run("b", 1, 3)
SMALL_KINDS = [ONE, FREE, TWO, TAIL, SOME, EITHER, LONG, THREE, SAME]

SPELLINGS = [
    "{p}", "{p}{q}", "{p}a{q}", "[{p}]{q}", "{p}[a{q}]", "{p}[{q}]", "{p}\n{q}", "[{p}]\n{q}", "{p}\n[{q}]",
    "[{p}]\n[{q}]", "[{p}]\n[{q}]\n[{r}]", "a[{p}[b{q}]]", "[[{p}a]{q}]b", "[{p}][{q}]", "[a{p}][b{q}]", "a\n[{p}]\nb",
    "[a{p}]\n[b{q}]", "[{p}[{q}[{r}]]]", "[[[{p}]{q}]{r}]", "a", "a\nb", "ab[b{p}]a", "[{p}]\n[{q}]a\n{r}", "{p}{q}{r}",
    "[a{p}b]a[b{q}]\n[a{r}]", "[{p}][{q}]\n[{r}]", "[{p}b][{q}a{r}]", "[{p}[a{q}]b]\na", "[ba{p}]\nb\n[{q}[a{r}]]",
    "{p}[b[a{q}]{r}]",
]


def small_forms():
    """Forms of one to three fields over the signs a and b."""
    forms = []
    for at, spelling in enumerate(SPELLINGS):
        for shift in range(3):
            kinds = {name: SMALL_KINDS[(at + shift * 4 + 2 * number * (shift + 1)) % len(SMALL_KINDS)]
                     for number, name in enumerate("pqr")}
            forms.append(Form.parse(spelling, kinds))
    return forms


def random_row(draw, names, deep, signs):
    """A row of items drawn by `draw`, with one field of the list `names` or more, which are taken out of it."""
    row = []
    if deep or draw.random() < 0.6:
        row.append(random_field(draw, names, signs))
    for _ in range(draw.randint(0, 2)):
        choice = draw.random()
        if choice < 0.35:
            row.append(Mark("".join(draw.choice(signs) for _ in range(draw.randint(1, 2)))))
        elif choice < 0.6 and names:
            row.append(random_field(draw, names, signs))
        elif deep < 3 and names:
            row.append(Maybe(random_row(draw, names, deep + 1, signs)))
    draw.shuffle(row)
    return row or [Mark(draw.choice(signs))]


def random_field(draw, names, signs):
    most = 2 if len(signs) == 2 else 3
    while True:
        kind = random_kind(draw, signs, most, most, most)
        if not kind.has_empty:
            return Field(names.pop(), kind)


def random_form(draw, signs="ab"):
    """A form of at most three fields over these signs, drawn by `draw`, a random.Random."""
    names = ["z", "k", "c"]
    lines = []
    for _ in range(draw.randint(1, 3)):
        if names:
            row = random_row(draw, names, 0, signs)
            lines.append([Maybe(row)] if draw.random() < 0.4 and own_names(row) and is_flat(row) else row)
    return Form(lines)


def is_flat(row):
    """Whether a group of these parts is not too deep."""
    return not any(isinstance(item, Maybe) for item in row)


def random_forms(seed, number, signs="ab"):
    draw = random.Random(seed)
    return [random_form(draw, signs) for _ in range(number)]


# What no text is (point 3).
BAD_TEXTS = ["\t", "%", "a%", "%a", "a\tb", "a" * 401, "\n" * 401, "a\r\n", "\x7f", "\xe4", "a\u2028b", "\x00",
             None, True, False, 0, 1, 10 ** 30, [], ["a"], (), ("a",), {}, {"a": "b"}, ONE, Field("a", ONE), Mark("a"),
             Maybe([Field("a", ONE)]), Form([[Mark("a")]])]
