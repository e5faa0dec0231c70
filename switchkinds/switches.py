"""Switch functions: a tuple of the number of names, and of the worths by the numbers of settings."""

from switchkinds.errors import NoName, NoSwitch, Unlike
from switchkinds.wholes import all_rows, are_whole_below, how_many_settings, is_many, is_many_listed
from switchkinds.wholes import is_row, is_whole_below, number_of


def is_switch(thing):
    """Whether any thing is a function."""
    if not isinstance(thing, tuple) or len(thing) != 2 or not is_many(thing[0]):
        return False
    return is_row(thing[1], how_many_settings(thing[0]), 2)


def check_switch(thing):
    """NoSwitch of what is no function."""
    if not is_switch(thing):
        raise NoSwitch("this is no switch function")


def check_alike(one, other):
    """NoSwitch of what is no function, then Unlike of unlike numbers of names."""
    check_switch(one)
    check_switch(other)
    if one[0] != other[0]:
        raise Unlike("these functions have unlike numbers of names")


def check_many(thing):
    """NoName of a number of names that can't be."""
    if not is_many(thing):
        raise NoName("there is no such number of names")


def check_name(many, thing):
    """NoName of a name that is none of so many."""
    if not is_whole_below(thing, many):
        raise NoName("there is no such name")


def check_worth(thing):
    """NoName of what is neither 0 nor 1."""
    if not is_whole_below(thing, 2):
        raise NoName("there is no such worth")


def worth_at(switch, setting):
    """The worth of the function at the setting."""
    check_switch(switch)
    if not is_row(setting, switch[0], 2):
        raise NoName("this is no setting of the function's names")
    return switch[1][number_of(setting)]


def ones(switch):
    """The numbers of all settings with worth 1, rising."""
    check_switch(switch)
    return [number for number, worth in enumerate(switch[1]) if worth == 1]


def turned(switch):
    """The function with the other worth everywhere."""
    check_switch(switch)
    return (switch[0], tuple([1 - worth for worth in switch[1]]))


def both(one, other):
    """The function that is 1 where both are 1."""
    check_alike(one, other)
    return (one[0], tuple([here & there for here, there in zip(one[1], other[1])]))


def either(one, other):
    """The function that is 1 where one or both are 1."""
    check_alike(one, other)
    return (one[0], tuple([here | there for here, there in zip(one[1], other[1])]))


def unlike(one, other):
    """The function that is 1 where just one is 1."""
    check_alike(one, other)
    return (one[0], tuple([here ^ there for here, there in zip(one[1], other[1])]))


def of_ones(many, numbers):
    """The function that is 1 just at the settings with these numbers."""
    check_many(many)
    settings = how_many_settings(many)
    if not isinstance(numbers, list) or not are_whole_below(numbers, settings):
        raise NoName("these are no numbers of settings of so many names")
    return (many, tuple([1 if number in numbers else 0 for number in range(settings)]))


def constant(many, worth):
    """The function that has this worth everywhere."""
    check_many(many)
    check_worth(worth)
    return (many, (worth,) * how_many_settings(many))


def single(many, name):
    """The function that is as the name is."""
    check_many(many)
    check_name(many, name)
    return (many, tuple([number >> name & 1 for number in range(how_many_settings(many))]))


def all_switches(many):
    """All functions of so many names, rising by their worths."""
    if not is_many_listed(many):
        raise NoName("all functions are told of 0 to 3 names alone")
    return [(many, worths) for worths in all_rows(how_many_settings(many))]
