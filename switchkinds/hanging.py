"""On which names functions hang, and what becomes of them when names are set, added, left out or exchanged."""

from switchkinds.errors import NoName
from switchkinds.moves import moved
from switchkinds.switches import check_alike, check_name, check_switch, check_worth
from switchkinds.wholes import MOST_NAMES, all_settings, how_many_ones, number_of


def how_much(switch, name):
    """At how many settings the worth is another one, if the name is turned there."""
    check_switch(switch)
    check_name(switch[0], name)
    worths = switch[1]
    return sum([worth ^ worths[number ^ (1 << name)] for number, worth in enumerate(worths)])


def needed(switch):
    """All names on which the function hangs, rising."""
    check_switch(switch)
    return [name for name in range(switch[0]) if how_much(switch, name) > 0]


def with_set(switch, name, one):
    """The function of the other names, where the name is 0 or 1."""
    check_switch(switch)
    check_name(switch[0], name)
    check_worth(one)
    fewer = switch[0] - 1
    sources = [number_of(setting[:name] + (one,) + setting[name:]) for setting in all_settings(fewer)]
    return (fewer, tuple([switch[1][source] for source in sources]))


def put_together(low, high, name):
    """The function with one name more that is low where this name is 0, high where it is 1."""
    check_alike(low, high)
    many = low[0] + 1
    if many > MOST_NAMES:
        raise NoName("there is no function with one name more")
    check_name(many, name)
    worths = []
    for setting in all_settings(many):
        half = high if setting[name] == 1 else low
        worths.append(half[1][number_of(setting[:name] + setting[name + 1:])])
    return (many, tuple(worths))


def reduced(switch):
    """The function of the needed names alone."""
    names = needed(switch)
    # The names that are left out change nothing, so they may stand at 0.
    sources = [sum([part << name for part, name in zip(setting, names)]) for setting in all_settings(len(names))]
    return (len(names), tuple([switch[1][source] for source in sources]))


def exchanged(switch, one, other):
    """The function with two names exchanged, the same perhaps."""
    check_switch(switch)
    many = switch[0]
    check_name(many, one)
    check_name(many, other)
    order = list(range(many))
    order[one] = other
    order[other] = one
    return moved(switch, (tuple(order), (0,) * many, 0))


def alike_to(switch, name):
    """All names that can be exchanged with this one, itself too, rising."""
    return [other for other in range(switch[0]) if exchanged(switch, name, other) == switch]


def alike_names(switch):
    """All names in rising lists, rising: those in one list can be exchanged, and nothing changes."""
    check_switch(switch)
    lists = [alike_to(switch, name) for name in range(switch[0])]
    # Each list is found by each of its names, and kept for the first of them.
    return [names for name, names in enumerate(lists) if names[0] == name]


def by_count(switch):
    """The worth for each number of ones in a setting; None where the function hangs on more than that."""
    check_switch(switch)
    # The setting in which just the first names are 1 stands for all that have as many ones.
    worths = [switch[1][(1 << count) - 1] for count in range(switch[0] + 1)]
    for number, worth in enumerate(switch[1]):
        if worth != worths[how_many_ones(number)]:
            return None
    return worths


def marks(switch):
    """The lesser of how many ones and noughts there are, and how_much of all names, the least first."""
    check_switch(switch)
    lesser = min(switch[1].count(1), switch[1].count(0))
    return (lesser, tuple(sorted([how_much(switch, name) for name in range(switch[0])])))
