"""Texts: how functions and moves are written, and what is read of a text."""

from switchkinds.errors import NoText
from switchkinds.moves import check_move, is_move
from switchkinds.switches import check_switch, is_switch

# Figures are looked up one by one, as int would read other writings of a number too.
FIGURES = {"0": 0, "1": 1, "2": 2, "3": 3, "4": 4}


def check_text(thing):
    """NoText of what is no text at all."""
    if not isinstance(thing, str):
        raise NoText("this is no text")


def switch_text(switch):
    """The text of a function: its number of names, a colon and its worths."""
    check_switch(switch)
    return str(switch[0]) + ":" + "".join([str(worth) for worth in switch[1]])


def read_switch(text):
    """The function that is written so."""
    check_text(text)
    switch = (FIGURES.get(text[:1]), tuple([FIGURES.get(sign) for sign in text[2:]]))
    if text[1:2] != ":" or not is_switch(switch):
        raise NoText("no function is written so")
    return switch


def move_text(many, move):
    """The text of a move: the figures of its order, a dash ahead of turned ones, and whether the whole is turned."""
    check_move(many, move)
    words = ["-" + str(name) if turn == 1 else str(name) for name, turn in zip(move[0], move[1])]
    words.append("!" if move[2] == 1 else "=")
    return " ".join(words)


def read_move(many, text):
    """The move of so many names that is written so."""
    check_text(text)
    words = text.split(" ")
    names = words[:-1]
    order = tuple([FIGURES.get(word[-1:]) for word in names])
    turns = tuple([1 if word.startswith("-") else 0 for word in names])
    move = (order, turns, 1 if words[-1] == "!" else 0)
    # Other texts may give the same move: the one that it is written as is the one that is read.
    if not is_move(many, move) or move_text(many, move) != text:
        raise NoText("no move of so many names is written so")
    return move
