"""Whole numbers, rows of them, and settings: what the other files share."""

MOST_NAMES = 4
MOST_NAMES_LISTED = 3


def is_whole(thing):
    """Whether any thing is a whole number."""
    # To Python, True and False are ints and equal 1 and 0; here they are no whole numbers.
    return isinstance(thing, int) and not isinstance(thing, bool)


def is_whole_below(thing, bound):
    """Whether any thing is a whole number from 0 on that is less than the bound."""
    return is_whole(thing) and 0 <= thing < bound


def are_whole_below(things, bound):
    """Whether all of a list or a tuple are whole numbers from 0 on that are less than the bound."""
    return all([is_whole_below(thing, bound) for thing in things])


def is_many(thing):
    """Whether any thing is a number of names that a function can have."""
    return is_whole_below(thing, MOST_NAMES + 1)


def is_many_listed(thing):
    """Whether any thing is a number of names of which all functions and all moves are told."""
    return is_whole_below(thing, MOST_NAMES_LISTED + 1)


def is_row(thing, length, bound):
    """Whether any thing is a tuple of this length of whole numbers less than the bound."""
    return isinstance(thing, tuple) and len(thing) == length and are_whole_below(thing, bound)


def all_rows(length):
    """All tuples of 0 and 1 of this length, rising."""
    rows = [()]
    for place in range(length):
        longer = []
        for row in rows:
            longer.append(row + (0,))
            longer.append(row + (1,))
        rows = longer
    return rows


def how_many_settings(many):
    """How many settings so many names have."""
    return 1 << many


def setting_at(many, number):
    """The setting of so many names that has the number."""
    return tuple([number >> name & 1 for name in range(many)])


def number_of(setting):
    """The number of a setting."""
    return sum([part << name for name, part in enumerate(setting)])


def all_settings(many):
    """All settings of so many names, by their numbers."""
    return [setting_at(many, number) for number in range(how_many_settings(many))]


def how_many_ones(number):
    """How many names are 1 in the setting that has the number."""
    return sum(setting_at(MOST_NAMES, number))
