"""What an integer is: the checks that all other modules share."""


def is_int(thing):
    """Tell whether any value is an integer."""
    # Python takes a bool for an int, the document never does.
    return isinstance(thing, int) and not isinstance(thing, bool)


def is_between(thing, least, most):
    """Tell whether any value is an integer from least to most."""
    return is_int(thing) and least <= thing <= most
