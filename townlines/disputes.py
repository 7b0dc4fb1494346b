"""Texts of one form with two readings that differ, and the first pair of such readings."""

from townlines.pairs import ALIKE_START, Duel, Track, kept_levels, meeting_places, shared_states, steps_from, won_text
from townlines.readings import owned_record


def owners_by_index(form):
    """Return, behind an entry for the place -1, the owner of the characters of each place."""
    return [""] + ["" if name is None else name for name in form.holders]


def owned_by_index(form):
    """Return, behind an entry for the place -1, the set of the places with the same owner as each place."""
    sets = dict(form.owner_sets)
    return [0] + [sets[owner] for owner in owners_by_index(form)[1:]]


def one_form_duel(form, likes):
    """Return the duel of two walks of the form that may go any ways."""
    net = form.net
    return Duel(net, net, [Track(net.follow, net.follow, meeting_places(net, net))], likes, ALIKE_START)


def differing_duel(form):
    """Return the duel that is won by a text with two different readings."""
    return one_form_duel(form, owned_by_index(form))


def disagreeing_duel(form, name):
    """Return the duel that is won by a text with two readings that disagree on the field."""
    # The spans of the field differ exactly if some character belongs to it in one reading only.
    inside = dict(form.owner_sets)[name]
    return one_form_duel(form, [inside if owner == name else ~inside for owner in owners_by_index(form)])


def unparted_duel(form, names):
    """Return the duel that is won by a text with two different readings that the names do not part."""
    net = form.net
    named = sum([places for owner, places in form.owner_sets if owner in names])
    owned = owned_by_index(form)
    # The readings are not parted if each of these fields starts in both at once or in none of them.
    starting = [ways & named & ~owned[at] for at, ways in enumerate(net.follow)]
    going_on = [ways & ~starting[at] for at, ways in enumerate(net.follow)]
    meets = meeting_places(net, net)
    starts_met = [places & owned[at] for at, places in enumerate(meets)]
    tracks = [Track(going_on, going_on, meets), Track(starting, starting, starts_met)]
    return Duel(net, net, tracks, owned, ALIKE_START)


def first_dispute(form, duel):
    """Return the least text of a duel of one form with the first pair of such readings, or None."""
    won = won_text(duel)
    if won is None:
        return None
    text, levels = won
    first, chosen = first_owners(form, duel, levels)
    second = second_owners(form, duel, chosen)
    return (text, owned_record(first, text), owned_record(second, text))


def first_owners(form, duel, levels):
    """Return the least owners that first walks have, and the levels of the pairs of which the first walk has them."""
    owners = owners_by_index(form)
    row = []
    chosen = [levels[0]]
    for goal in levels[1:]:
        reached = shared_states(steps_from(duel, chosen[-1]), goal)
        least = min([owners[key // 2] for key in reached])
        row.append(least)
        chosen.append({key: others for key, others in reached.items() if owners[key // 2] == least})
    return (row, kept_levels(duel, chosen))


def second_owners(form, duel, levels):
    """Return the least owners that second walks have."""
    row = []
    chosen = levels[0]
    for goal in levels[1:]:
        reached = shared_states(steps_from(duel, chosen), goal)
        met = 0
        for others in reached.values():
            met = met | others
        least, places = [(owner, places) for owner, places in form.owner_sets if places & met][0]
        row.append(least)
        chosen = {key: others & places for key, others in reached.items() if others & places}
    return row
