"""What kind of plain value a thing is."""


def is_whole(thing):
    """Tell whether a thing is an integer: flags are none."""
    return isinstance(thing, int) and not isinstance(thing, bool)


def is_row(thing):
    """Tell whether a thing is a list or a tuple."""
    return isinstance(thing, (list, tuple))


def is_name(thing):
    """Tell whether a thing is a string of 1 to 8 letters from a to z."""
    if not isinstance(thing, str) or not 1 <= len(thing) <= 8:
        return False
    for mark in thing:
        if not "a" <= mark <= "z":
            return False
    return True


def is_ascending(thing, least, most):
    """Tell whether a thing is an ascending tuple of integers from least to most, none twice."""
    if not isinstance(thing, tuple):
        return False
    lowest = least
    for number in thing:
        if not is_whole(number) or not lowest <= number <= most:
            return False
        lowest = number + 1
    return True
