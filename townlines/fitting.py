"""Shortening the words of records until the written lines are narrow enough."""

from townlines.basics import is_integer_within
from townlines.errors import BadNumber, BadShort, TooMany, TooWide, Unknown
from townlines.nets import FEED, START, stand_from

WIDEST = 300
MOST_SPOTS = 12
BLANK = " "


def fitted(form, record, width, shorter):
    """Return the record with the fewest words replaced by shorter ones so that no line has more than `width` signs."""
    check_shorter(form, shorter)
    text = form.write(record)
    if not is_integer_within(width, 1, WIDEST):
        raise BadNumber(width)
    spots = all_spots(form, record, shorter)
    if len(spots) > MOST_SPOTS:
        raise TooMany()
    lines_of = lines_of_fields(form, record, text)
    chosen = []
    for line, row in enumerate(text.split(FEED)):
        here = [spot for spot in spots if lines_of[spot[0]] == line]
        chosen.extend(line_spots(form, record, shorter, here, len(row) - width, line))
    return replaced_record(form, record, shorter, chosen)


def check_shorter(form, shorter):
    """Raise Unknown or BadShort if these short words cannot be used for the form."""
    names = form.names()
    keys = sorted(list(shorter))
    for name in keys:
        if name not in names:
            raise Unknown(name)
    for name in keys:
        if not all([is_shortening(long, short) for long, short in shorter[name].items()]):
            raise BadShort(name)


def is_shortening(long, short):
    """Tell whether both are words without blanks and the second one is the shorter one."""
    return is_word(long) and is_word(short) and len(short) < len(long)


def is_word(thing):
    """Tell whether `thing` is a non-empty string without blanks."""
    return isinstance(thing, str) and thing != "" and BLANK not in thing


def all_spots(form, record, shorter):
    """Return the spots of the record, tuples (index of a field, index of a word), in ascending order."""
    found = []
    for at, name in enumerate(form.names()):
        if name in record and name in shorter:
            words = record[name].split(BLANK)
            found.extend([(at, number) for number, word in enumerate(words) if word in shorter[name]])
    return found


def lines_of_fields(form, record, text):
    """Return a dict from the indexes of the fields of the record to the numbers of their written lines."""
    spans = form.spans(record)
    found = {}
    for at, name in enumerate(form.names()):
        if name in spans:
            start, stop = spans[name]
            found[at] = text[:start].count(FEED)
    return found


def line_spots(form, record, shorter, spots, surplus, line):
    """Return the best of the spots of a line that has so many signs too many."""
    if surplus <= 0:
        return []
    allowed = {at: allowed_choices(form, record, shorter, at) for at in {spot[0]: True for spot in spots}}
    for chosen in sorted(subsets(spots), key=fewest_first):
        if saved_signs(form, record, shorter, chosen) >= surplus and is_allowed(allowed, chosen):
            return chosen
    raise TooWide(line)


def allowed_choices(form, record, shorter, at):
    """Return a dict whose keys are the tuples of spots of this field that leave a word of its kind."""
    field = form.fields[at]
    net = field.kind.net
    shorts = shorter[field.name]
    stands = {(): START}
    for number, word in enumerate(record[field.name].split(BLANK)):
        grown = {}
        for spots, stand in stands.items():
            start = stand if number == 0 else stand_from(net, stand, BLANK)
            grown[spots] = stand_from(net, start, word)
            if word in shorts:
                grown[spots + ((at, number),)] = stand_from(net, start, shorts[word])
        stands = {spots: stand for spots, stand in grown.items() if stand}
    return {spots: True for spots, stand in stands.items() if stand & net.exits}


def is_allowed(allowed, chosen):
    """Tell whether the spots leave words of their kinds in all fields."""
    return all([tuple([spot for spot in chosen if spot[0] == at]) in choices for at, choices in allowed.items()])


def subsets(spots):
    """Return all lists of some of the spots in their order."""
    found = [[]]
    for spot in spots:
        found = found + [chosen + [spot] for chosen in found]
    return found


def fewest_first(chosen):
    """Return the key by which lists of spots are ordered: those of fewer spots first."""
    return (len(chosen), chosen)


def saved_signs(form, record, shorter, chosen):
    """Return how many signs are saved by the replacements at these spots."""
    saved = 0
    for at, number in chosen:
        name = form.fields[at].name
        word = record[name].split(BLANK)[number]
        saved = saved + len(word) - len(shorter[name][word])
    return saved


def replaced_record(form, record, shorter, chosen):
    """Return a new record with the words at these spots replaced."""
    found = dict(record)
    for at, name in enumerate(form.names()):
        if name in record and name in shorter:
            words = record[name].split(BLANK)
            found[name] = " ".join([shorter[name][word] if (at, number) in chosen else word
                                      for number, word in enumerate(words)])
    return found
