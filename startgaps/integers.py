"""What an integer is, and what a fraction is: the checks and the one way to write that all other modules share."""

from math import gcd


def is_int(thing):
    """Tell whether any value is an integer."""
    # Python takes a bool for an int, the document never does.
    return isinstance(thing, int) and not isinstance(thing, bool)


def is_between(thing, least, most):
    """Tell whether any value is an integer from least to most."""
    return is_int(thing) and least <= thing <= most


def fraction(top, bottom):
    """Return top and bottom, which is above 0, without their common factors."""
    shared = gcd(top, bottom)
    return top // shared, bottom // shared


def is_fraction(thing):
    """Tell whether any value is a fraction: in lowest terms, with a bottom from 1 on."""
    if not isinstance(thing, tuple) or len(thing) != 2:
        return False
    top, bottom = thing
    # All have the factor 1 in common; with 0, the common factor is the other number.
    return is_int(top) and is_int(bottom) and bottom >= 1 and gcd(top, bottom) == 1
