"""Kinds: functions that moves lead to one another, and papers that two functions are no kin."""

from switchkinds.errors import NoName
from switchkinds.moves import all_moves, moved
from switchkinds.switches import all_switches, check_alike, check_switch, ones, unlike
from switchkinds.wholes import how_many_settings, is_many_listed, is_row, is_whole_below

MOST_NAMES_OF_ALL_KINDS = 2


def check_listed(many):
    """NoName of a number of names of which all moves are not told."""
    if not is_many_listed(many):
        raise NoName("kinds are told of 0 to 3 names alone")


def check_one(switch):
    """NoSwitch of what is no function, then NoName of too many names."""
    check_switch(switch)
    check_listed(switch[0])


def check_two(one, other):
    """NoSwitch of what is no function, then Unlike, then NoName of too many names."""
    check_alike(one, other)
    check_listed(one[0])


def all_led(switch):
    """The functions to which all moves lead, in the order of all_moves."""
    return [moved(switch, move) for move in all_moves(switch[0])]


def kin_of(switch):
    """All functions to which moves lead, rising."""
    check_one(switch)
    return sorted(set(all_led(switch)))


def least_form(switch):
    """The least function to which moves lead."""
    check_one(switch)
    return min(all_led(switch))


def moves_to(one, other):
    """All moves that lead the one to the other, in the order of all_moves."""
    check_two(one, other)
    return [move for move in all_moves(one[0]) if moved(one, move) == other]


def keepers(switch):
    """All moves that keep the function, in the order of all_moves."""
    return moves_to(switch, switch)


def are_kin(one, other):
    """Whether some move leads the one to the other."""
    check_two(one, other)
    return other in all_led(one)


def least_forms(many):
    """The least forms of all functions of so many names, rising."""
    found = []
    known = {}
    for switch in all_switches(many):
        # All functions come rising, so the first one of each kind is the least of it.
        if switch not in known:
            found.append(switch)
            for kin in kin_of(switch):
                known[kin] = True
    return found


def all_kinds(many):
    """The least forms of all functions of 0 to 2 names, rising."""
    if not is_whole_below(many, MOST_NAMES_OF_ALL_KINDS + 1):
        raise NoName("all kinds are told of 0 to 2 names alone")
    return least_forms(many)


def how_many_kinds(many):
    """How many kinds the functions of 0 to 3 names have."""
    check_listed(many)
    return len(least_forms(many))


def why_not(one, other):
    """None of kin; else for each move the number of a setting at which it does not lead the one to the other."""
    check_two(one, other)
    led = all_led(one)
    if other in led:
        return None
    return tuple([ones(unlike(switch, other))[0] for switch in led])


def is_why_not(one, other, thing):
    """Whether any thing is a tuple that shows of each move that it does not lead the one to the other."""
    check_two(one, other)
    led = all_led(one)
    if not is_row(thing, len(led), how_many_settings(one[0])):
        return False
    return all([switch[1][number] != other[1][number] for switch, number in zip(led, thing)])
