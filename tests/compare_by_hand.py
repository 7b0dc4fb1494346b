"""What the document says of two forms, worked out slowly and plainly with sets of places."""

from forms_by_hand import Walks


class Two:
    """Two forms whose texts are followed side by side."""

    def __init__(self, one, other):
        self.one, self.other = Walks(one), Walks(other)
        self.chars = sorted({char for form in (self.one, self.other) for _, chars in form.places for char in chars})
        self.owners = sorted({name or "" for form in (self.one, self.other) for name, _ in form.places})

    def owned_step(self, form, stand, char, owner):
        return frozenset(place for place in form.step(stand, char) if (form.places[place][0] or "") == owner)

    def levels(self, step, keys, is_dropped):
        """For each length the dict from the pairs of stands of texts with this length to the least of these texts."""
        newest = {(frozenset([-1]), frozenset([-1])): ""}
        while True:
            yield newest
            reached = {}
            for stands, text in newest.items():
                for key in keys:
                    target = step(stands, key)
                    if not is_dropped(target):
                        longer = text + key[0]
                        reached[target] = min(reached.get(target, longer), longer)
            newest = reached

    def text_levels(self):
        """Pairs of stands after texts with which some text of the first form begins."""
        return self.levels(lambda stands, key: (self.one.step(stands[0], key[0]), self.other.step(stands[1], key[0])),
                           [(char,) for char in self.chars], lambda stands: not stands[0])

    def owned_levels(self):
        """Pairs of stands after texts with their owners."""
        return self.levels(lambda stands, key: (self.owned_step(self.one, stands[0], *key),
                                                self.owned_step(self.other, stands[1], *key)),
                           [(char, owner) for char in self.chars for owner in self.owners],
                           lambda stands: not stands[0] and not stands[1])

    def search(self, levels, is_goal, counted):
        """The least text to a goal or None, and the number of different counted stands, for texts up to it or all."""
        known, lists = set(), set()
        for level in levels:
            lists |= {counted(stands) for stands in level}
            texts = [text for stands, text in level.items() if is_goal(*stands)]
            if texts:
                return min(texts), len(lists)
            if set(level) <= known:
                return None, len(lists)
            known |= set(level)

    def both(self):
        return self.search(self.text_levels(), lambda one, other: self.one.can_end(one) and self.other.can_end(other),
                           lambda stands: stands)[0]

    def beyond(self):
        return self.search(self.text_levels(), lambda one, other: self.one.can_end(one) and not self.other.can_end(other),
                           lambda stands: stands[1])

    def parted_text(self):
        return self.search(self.owned_levels(), lambda one, other: self.one.can_end(one) != self.other.can_end(other),
                           lambda stands: stands)

    def certificate(self):
        """Point 49, whether or not there is a text beyond."""
        known = {}
        for level in self.text_levels():
            if set(level) <= set(known):
                break
            known.update(level)
        entries = {(place, tuple(sorted(other))) for one, other in known for place in one}
        return [(place, list(stand)) for place, stand in sorted(entries)]

    def is_certificate(self, thing):
        """Point 50, for a list of tuples of places and ascending lists of places."""
        given = {(place, tuple(stand)) for place, stand in thing}
        if (-1, (-1,)) not in given:
            return False
        for place, stand in given:
            if self.one.can_end({place}) and not self.other.can_end(set(stand)):
                return False
            for follower in self.one.after[place]:
                for char in self.one.places[follower][1]:
                    if (follower, tuple(sorted(self.other.step(stand, char)))) not in given:
                        return False
        return True
