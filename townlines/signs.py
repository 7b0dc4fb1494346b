"""Sets of signs."""

from townlines.errors import BadSigns

# All 94 signs in ascending order; the percent sign is none.
SIGNS = " !\"#$&'()*+,-./0123456789:;<=>?@ABCDEFGHIJKLMNOPQRSTUVWXYZ[\\]^_`abcdefghijklmnopqrstuvwxyz{|}~"


class Signs:
    """A set of signs that never changes."""

    def __init__(self, text=""):
        if not is_sign_text(text):
            raise BadSigns()
        self.signs = "".join([sign for sign in SIGNS if sign in text])

    @staticmethod
    def span(first, last):
        """Return the signs from `first` to `last`, both included."""
        if not is_sign(first) or not is_sign(last) or first > last:
            raise BadSigns()
        return Signs("".join([sign for sign in SIGNS if first <= sign <= last]))

    @staticmethod
    def letters():
        """Return the signs from a to z."""
        return Signs.span("a", "z")

    @staticmethod
    def capitals():
        """Return the signs from A to Z."""
        return Signs.span("A", "Z")

    @staticmethod
    def digits():
        """Return the signs from 0 to 9."""
        return Signs.span("0", "9")

    def __or__(self, other):
        return Signs(self.signs + signs_of(other))

    def __ror__(self, other):
        return self | other

    def __ior__(self, other):
        return self | other

    def __and__(self, other):
        return Signs(kept_signs(self.signs, signs_of(other)))

    def __rand__(self, other):
        return self & other

    def __sub__(self, other):
        return Signs(other_signs(self.signs, signs_of(other)))

    def __rsub__(self, other):
        return Signs(other_signs(signs_of(other), self.signs))

    def __invert__(self):
        return Signs(other_signs(SIGNS, self.signs))

    def __eq__(self, other):
        return isinstance(other, Signs) and self.signs == other.signs

    def __len__(self):
        return len(self.signs)

    def __bool__(self):
        return bool(self.signs)

    def __contains__(self, x):
        return is_sign(x) and x in self.signs

    def within(self, other):
        """Tell whether `other`, a Signs or a string of signs, contains every sign of this set."""
        return other_signs(self.signs, signs_of(other)) == ""

    def least(self):
        """Return the least sign."""
        if self.signs == "":
            raise BadSigns()
        return self.signs[0]

    def spelled(self):
        """Return the signs in ascending order as one string."""
        return self.signs


def is_sign(thing):
    """Tell whether `thing` is a string of one sign."""
    return isinstance(thing, str) and len(thing) == 1 and thing in SIGNS


def is_sign_text(thing):
    """Tell whether `thing` is a string of signs."""
    return isinstance(thing, str) and all([sign in SIGNS for sign in thing])


def is_signs(thing):
    """Tell whether `thing` is a Signs or a string of signs."""
    return isinstance(thing, Signs) or is_sign_text(thing)


def signs_of(thing):
    """Return the signs of a Signs or a string of signs as an ascending string."""
    if isinstance(thing, Signs):
        return thing.signs
    return Signs(thing).signs


def kept_signs(signs, others):
    """Return the signs of `signs` that `others` contains."""
    return "".join([sign for sign in signs if sign in others])


def other_signs(signs, others):
    """Return the signs of `signs` that `others` does not contain."""
    return "".join([sign for sign in signs if sign not in others])
