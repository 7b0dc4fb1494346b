"""What the document says of pairs of readings and of pairs of places, worked out slowly and plainly."""

import itertools

from forms_by_hand import Walks


def order(text):
    return (len(text), text)


def spans_of(row):
    """The spans of the fields in a row of owners."""
    return {name: (row.index(name), row.index(name) + row.count(name)) for name in set(row) - {""}}


def disagree(row, other, name):
    """Point 39, for the owners of two readings."""
    return spans_of(row).get(name) != spans_of(other).get(name)


def apart(form, row, other):
    """Point 43, for the owners of two records."""
    starts, others = ({name: span[0] for name, span in spans_of(one).items()} for one in (row, other))
    return [name for name in form.names() if starts.get(name) != others.get(name)]


def first_pair(found, is_wanted):
    """The least text of a dict as `readings_by_text` returns it, with the first pair of wanted readings, or None."""
    for text in sorted(found, key=order):
        for (row, record), (other, other_record) in itertools.permutations(found[text], 2):
            if is_wanted(row, other):
                return (text, record, other_record)
    return None


class Steps:
    """The steps of point 40 between pairs of places."""

    def __init__(self, form):
        self.found = Walks(form)
        self.places = self.found.places
        self.made = {}

    def chars(self, place, other):
        return set(self.places[place][1]) & set(self.places[other][1])

    def alike(self, place, other):
        return self.places[place][0] == self.places[other][0]

    def steps(self, pair):
        if pair not in self.made:
            self.made[pair] = [(one, two) for one in self.found.after[pair[0]] for two in self.found.after[pair[1]]
                               if self.chars(one, two)]
        return self.made[pair]

    def can_end(self, place):
        return place in self.found.lasts or (place == -1 and self.found.may_be_empty)

    def closing(self):
        """The two lists of point 41, whether or not the form is single."""
        start = ((-1, -1), False)
        known, waiting = {start}, [start]
        while waiting:
            pair, unlike = waiting.pop()
            for target in self.steps(pair):
                state = (target, unlike or not self.alike(*target))
                if state not in known:
                    known.add(state)
                    waiting.append(state)
        return tuple(sorted(pair for pair, unlike in known if unlike is wanted) for wanted in (False, True))

    def is_single(self):
        return not any(self.can_end(one) and self.can_end(two) for one, two in self.closing()[1])

    def is_certificate(self, same, unlike):
        """Point 42, for two lists of pairs of places."""
        same, unlike = set(same), set(unlike)
        if (-1, -1) not in same:
            return False
        for pair in same:
            if not all(target in (same if self.alike(*target) else unlike) for target in self.steps(pair)):
                return False
        if not all(target in unlike for pair in unlike for target in self.steps(pair)):
            return False
        return not any(self.can_end(one) and self.can_end(two) for one, two in unlike)

    def least_texts(self, is_unlike, is_allowed, longest):
        """The least text with two walks of unlike ways by allowed steps, or None if it has more than `longest`."""
        newest = {((-1, -1), False): ""}
        for _ in range(longest + 1):
            final = [text for (pair, unlike), text in newest.items()
                     if unlike and self.can_end(pair[0]) and self.can_end(pair[1])]
            if final:
                return min(final)
            reached = {}
            for (pair, unlike), text in newest.items():
                for target in self.steps(pair):
                    if is_allowed(pair, target):
                        longer = text + min(self.chars(*target))
                        state = (target, unlike or is_unlike(*target))
                        reached[state] = min(reached.get(state, longer), longer)
            newest = reached
        return None

    def owner(self, place):
        return self.places[place][0] if place >= 0 else None

    def started(self, names, place, target):
        """The field of the names that a step from a place starts, or None."""
        owner = self.owner(target)
        return owner if owner in names and owner != self.owner(place) else None

    def least_twice(self, longest):
        return self.least_texts(lambda *pair: not self.alike(*pair), lambda pair, target: True, longest)

    def least_unsure(self, name, longest):
        return self.least_texts(lambda one, two: (self.owner(one) == name) != (self.owner(two) == name),
                                lambda pair, target: True, longest)

    def least_unparted(self, names, longest):
        return self.least_texts(
            lambda *pair: not self.alike(*pair),
            lambda pair, target: self.started(names, pair[0], target[0]) == self.started(names, pair[1], target[1]),
            longest)
