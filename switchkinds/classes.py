"""Classes that are kept when functions are put in one another, and what is made of a list of functions."""

from switchkinds.errors import NoName, NoSwitch
from switchkinds.sums import is_sum
from switchkinds.switches import check_switch, ones, single
from switchkinds.wholes import how_many_settings, is_whole_below

WORDS = ("keeps 0", "keeps 1", "turned", "rising", "sum")
MOST_NAMES_MADE = 2


def check_switches(things):
    """NoSwitch of what is no list of functions."""
    if not isinstance(things, list):
        raise NoSwitch("this is no list of switch functions")
    for thing in things:
        check_switch(thing)


def rising_above(switch):
    """Of all rising functions that are nowhere less the one with the fewest ones."""
    numbers = ones(switch)
    worths = []
    for number in range(len(switch[1])):
        # A one anywhere is a one wherever names that were 0 there are 1.
        below = [one for one in numbers if one & number == one]
        worths.append(1 if below else 0)
    return (switch[0], tuple(worths))


def turns_with_names(switch):
    """Whether the worth is the other one where all names are turned, everywhere."""
    worths = switch[1]
    # The setting with all names turned stands as far from the end as this one from the start.
    return all([worth != other for worth, other in zip(worths, worths[::-1])])


def classes(switch):
    """The words of the function's classes, in the order of WORDS."""
    check_switch(switch)
    worths = switch[1]
    rising = rising_above(switch) == switch
    answers = (worths[0] == 0, worths[-1] == 1, turns_with_names(switch), rising, is_sum(switch))
    return [word for word, answer in zip(WORDS, answers) if answer]


def missing(some):
    """The words of all classes that have all functions of the list, in the order of WORDS."""
    check_switches(some)
    told = [classes(switch) for switch in some]
    return [word for word in WORDS if all([word in words for words in told])]


def is_enough(some):
    """Whether no class has all functions of the list."""
    return missing(some) == []


def first_put_in(rests, other):
    """What is left of the worths at each setting, when the other function is in the place of the first name left."""
    return tuple([rest[worth::2] for rest, worth in zip(rests, other[1])])


def put_in(switch, others):
    """The function that has the others in the place of its names."""
    check_switch(switch)
    check_switches(others)
    if others == [] or len(others) != switch[0]:
        raise NoName("there must be one function for each name, and not none")
    many = others[0][0]
    if not all([other[0] == many for other in others]):
        raise NoName("these functions have unlike numbers of names")
    rests = (switch[1],) * how_many_settings(many)
    for other in others:
        rests = first_put_in(rests, other)
    return (many, tuple([rest[0] for rest in rests]))


def all_put_in(switch, many, parts):
    """All functions of so many names that the function becomes with some of the parts in the place of its names."""
    found = [(switch[1],) * how_many_settings(many)]
    for name in range(switch[0]):
        longer = []
        for rests in found:
            longer.extend([first_put_in(rests, part) for part in parts])
        # Many ways lead to the same: told once, they stay few.
        found = sorted(set(longer))
    return [(many, tuple([rest[0] for rest in rests])) for rests in found]


def grown_by(some, many, made):
    """What is made already, and all that comes of it with one more function of the list, rising."""
    found = list(made)
    for switch in some:
        found.extend(all_put_in(switch, many, made))
    return sorted(set(found))


def made_of(some, many):
    """All functions of 0 to 2 names that are made of names and of the list's functions, rising."""
    check_switches(some)
    if not is_whole_below(many, MOST_NAMES_MADE + 1):
        raise NoName("what is made is told of 0 to 2 names alone")
    made = sorted([single(many, name) for name in range(many)])
    grown = grown_by(some, many, made)
    while len(grown) > len(made):
        made = grown
        grown = grown_by(some, many, made)
    return made
