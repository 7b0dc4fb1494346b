"""What the beginning of a text tells of every text that begins so."""

from townlines.characters import check_text
from townlines.errors import NoReading
from townlines.nets import EVERYWHERE, places_after, stands_along
from townlines.readings import shares_of, sole_values


def told_so_far(form, text):
    """Return the fields that have the same span, within the text, in all readings of all texts that begin so."""
    check_text(text)
    # Each beginning of a walk can be completed, so all walks that pass the text count.
    stands = stands_along(form.net, text, EVERYWHERE)
    if stands[0] == 0:
        raise NoReading()
    found = sole_values(form, text, shares_of(form, stands))
    # A field that can go on behind the text has another span in some longer text.
    ways = places_after(form.net, stands[-1])
    for owner, places in form.owner_sets:
        if owner in found and places & ways:
            del found[owner]
    return found
