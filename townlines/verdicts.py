"""Whether each text of a form has only one reading, and what shows it."""

from townlines.basics import is_integer_within
from townlines.disputes import differing_duel, disagreeing_duel, first_dispute
from townlines.errors import BadValue, Missing, NotSingle, TooLarge, Unknown
from townlines.forms import check_known
from townlines.nets import START
from townlines.pairs import ALIKE_START, closed_lists, explored, final_states, is_won, steps_from, won_text


def twice(form):
    """Return the least text with two readings and its first two readings, or None."""
    return first_dispute(form, differing_duel(form))


def is_twice(form, thing):
    """Tell whether `thing` is a tuple of a text and two different records that are written as this text."""
    if not isinstance(thing, tuple) or len(thing) != 3:
        return False
    text, first, second = thing
    if not isinstance(text, str) or not is_string_dict(first) or not is_string_dict(second) or first == second:
        return False
    return is_written_as(form, first, text) and is_written_as(form, second, text)


def unsure(form, name):
    """Return the least text with two readings that disagree on the field and the first pair of them, or None."""
    check_known(form, name)
    return first_dispute(form, disagreeing_duel(form, name))


def sure_names(form):
    """Return the names of the fields on which no two readings of any text disagree."""
    return [name for name in form.names() if not is_won(disagreeing_duel(form, name))]


def certificate(form):
    """Return the pairs of places that are reached by alike steps only, and those reached by others, too."""
    duel = differing_duel(form)
    levels, known = explored(duel)
    if len(levels[-1]) > 0:
        text, kept = won_text(duel)
        raise NotSingle(text)
    return closed_lists(known)


def is_certificate(form, thing):
    """Tell whether `thing` shows that the form is single."""
    if not isinstance(thing, tuple) or len(thing) != 2:
        return False
    last = len(form.holders) - 1
    if not all([is_pair_list(pairs, last) for pairs in thing]):
        return False
    given = states_of(thing)
    duel = differing_duel(form)
    if (given.get(ALIKE_START, 0) & START) == 0 or len(final_states(duel, given)) > 0:
        return False
    reached = steps_from(duel, given)
    return all([(others & ~given.get(key, 0)) == 0 for key, others in reached.items()])


def is_string_dict(thing):
    """Tell whether `thing` is a dict all of whose keys and values are strings."""
    if not isinstance(thing, dict):
        return False
    return all([isinstance(key, str) and isinstance(value, str) for key, value in thing.items()])


def is_written_as(form, record, text):
    """Tell whether the record is written as this text."""
    try:
        return form.write(record) == text
    except (Unknown, Missing, BadValue, TooLarge):
        return False


def is_pair_list(thing, last):
    """Tell whether `thing` is a list of pairs of places up to the place `last`."""
    return isinstance(thing, list) and all([is_pair(pair, last) for pair in thing])


def is_pair(thing, last):
    """Tell whether `thing` is a pair of places up to the place `last`."""
    if not isinstance(thing, tuple) or len(thing) != 2:
        return False
    return all([is_integer_within(place, -1, last) for place in thing])


def states_of(lists):
    """Return the states of the pairs of places in the two lists: those after alike steps, and the others."""
    level = {}
    for unlike, pairs in enumerate(lists):
        for first, second in pairs:
            key = 2 * (1 + first) + unlike
            level[key] = level.get(key, 0) | (1 << (1 + second))
    return level
