"""What kind of value something is: numbers, tuples, nests that are the same."""


def is_number(value):
    """Whether a value is a number; True and False are none."""
    return isinstance(value, int) and not isinstance(value, bool)


def is_between(value, low, high):
    """Whether a value is a number from low to high."""
    return is_number(value) and low <= value <= high


def is_from(value, low):
    """Whether a value is a number from low on."""
    return is_number(value) and low <= value


def is_tuple(value, size):
    """Whether a value is a tuple of so many entries."""
    return isinstance(value, tuple) and len(value) == size


def are_numbers(value, size):
    """Whether a value is a tuple of so many numbers."""
    if not is_tuple(value, size):
        return False
    for entry in value:
        if not is_number(entry):
            return False
    return True


def is_told(value, word, size):
    """Whether a value is a tuple of so many entries that begins with the word."""
    return is_tuple(value, size) and isinstance(value[0], str) and value[0] == word


def same_nest(value, wanted):
    """Whether a value is the wanted nest of tuples, texts and numbers, kinds included."""
    # Python takes True for 1, so == alone would not tell the kinds apart.
    if isinstance(wanted, str):
        return isinstance(value, str) and value == wanted
    if not isinstance(wanted, tuple):
        return is_number(value) and value == wanted
    if not is_tuple(value, len(wanted)):
        return False
    for entry, other in zip(value, wanted):
        if not same_nest(entry, other):
            return False
    return True


def leaves(nest):
    """All that stands in a nest of tuples and is no tuple, each as often as it stands there."""
    found = []
    waiting = [nest]
    while waiting != []:
        value = waiting.pop()
        if isinstance(value, tuple):
            waiting.extend(value)
        else:
            found.append(value)
    return found
