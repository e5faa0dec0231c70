"""Moves: a tuple of the order of names, of the turns of names, and of whether the whole is turned."""

from switchkinds.errors import NoMove, NoName
from switchkinds.switches import check_many, check_switch
from switchkinds.wholes import all_rows, all_settings, is_many, is_many_listed, is_row, is_whole_below, number_of


def is_order(many, thing):
    """Whether any thing is a tuple of all names, each once."""
    return is_row(thing, many, many) and sorted(thing) == list(range(many))


def is_move(many, thing):
    """Whether any thing is a move of so many names."""
    if not is_many(many) or not isinstance(thing, tuple) or len(thing) != 3:
        return False
    return is_order(many, thing[0]) and is_row(thing[1], many, 2) and is_whole_below(thing[2], 2)


def check_move(many, thing):
    """NoMove of what is no move of so many names."""
    if not is_move(many, thing):
        raise NoMove("this is no move of so many names")


def names_of(thing):
    """How many names a move has; NoMove of what is no move of any number of names."""
    if not isinstance(thing, tuple) or len(thing) != 3 or not isinstance(thing[0], tuple):
        raise NoMove("this is no move")
    check_move(len(thing[0]), thing)
    return len(thing[0])


def led(setting, move):
    """The setting at which the move looks up the worth that it tells at this one."""
    return tuple([setting[name] ^ turn for name, turn in zip(move[0], move[1])])


def moved(switch, move):
    """The function to which the move leads."""
    check_switch(switch)
    many = switch[0]
    check_move(many, move)
    sources = [number_of(led(setting, move)) for setting in all_settings(many)]
    return (many, tuple([switch[1][source] ^ move[2] for source in sources]))


def still(many):
    """The move that does nothing."""
    check_many(many)
    return (tuple(range(many)), (0,) * many, 0)


def behind(one, other):
    """The move that does the one and then the other."""
    many = names_of(one)
    check_move(many, other)
    order = [other[0][name] for name in one[0]]
    # The other one's turns stand by its own names, which the first one's order picks.
    turns = [other[1][name] ^ turn for name, turn in zip(one[0], one[1])]
    return (tuple(order), tuple(turns), one[2] ^ other[2])


def back(move):
    """The move that leads back."""
    many = names_of(move)
    places = [move[0].index(name) for name in range(many)]
    return (tuple(places), tuple([move[1][place] for place in places]), move[2])


def all_orders(many):
    """All tuples of all names, each once, rising."""
    orders = [()]
    for place in range(many):
        longer = []
        for order in orders:
            longer.extend([order + (name,) for name in range(many) if name not in order])
        orders = longer
    return orders


def all_moves(many):
    """All moves of so many names, rising."""
    if not is_many_listed(many):
        raise NoName("all moves are told of 0 to 3 names alone")
    moves = []
    for order in all_orders(many):
        for turns in all_rows(many):
            moves.append((order, turns, 0))
            moves.append((order, turns, 1))
    return moves
