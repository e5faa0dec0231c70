"""Stage 7, texts: 7.1, 7.2, 0.2 (g), and 0.3 and 1.2 as far as texts of functions and moves go."""

import itertools
import unittest

from switchkinds.errors import NoMove, NoSwitch, NoText
from switchkinds.moves import still
from switchkinds.texts import move_text, read_move, read_switch, switch_text
from things import (
    NO_SWITCHES, SIGNS, SOME_MOVES, SOME_SWITCHES, THINGS, TOO_LONG, TOO_MANY, Asking, moves_by_words, no_moves,
    no_wholes, some_switches, spoilt)


def switch_by_words(switch):
    many, worths = switch
    text = {0: "0:", 1: "1:", 2: "2:", 3: "3:", 4: "4:"}[many]
    for worth in worths:
        text += {0: "0", 1: "1"}[worth]
    return text


def move_by_words(move):
    order, turns, whole = move
    text = ""
    for name, turn in zip(order, turns):
        text += {0: "", 1: "-"}[turn] + {0: "0", 1: "1", 2: "2", 3: "3"}[name] + " "
    return text + {0: "=", 1: "!"}[whole]


ALL_SWITCHES = {switch_by_words(switch): switch for many in range(5) for switch in some_switches(many, 1)}
ALL_MOVES = [{move_by_words(move): move for move in moves_by_words(many)} for many in range(5)]


class TextsOfFunctions(Asking, unittest.TestCase):
    """7.1, 7.2 and 0.2 (g), of functions"""

    def test_by_hand(self):
        for switch, text in [((0, (0,)), "0:0"), ((0, (1,)), "0:1"), ((1, (0, 1)), "1:01"), ((1, (1, 0)), "1:10"),
                             ((2, (0, 1, 1, 0)), "2:0110"), ((2, (0, 1, 0, 0)), "2:0100"),
                             ((3, (0, 0, 0, 1, 0, 1, 1, 1)), "3:00010111"),
                             ((4, (1,) + (0,) * 15), "4:1000000000000000")]:
            self.same(switch_text(switch), text)
            self.same(read_switch(text), switch)

    def test_all_are_written_and_read_again(self):
        self.assertEqual(len(ALL_SWITCHES), 2 + 4 + 16 + 256 + 65536)
        for text, switch in ALL_SWITCHES.items():
            self.assertEqual(switch_text(switch), text)
            self.assertEqual(read_switch(text), switch)

    def test_what_is_read_is_made_of_tuples_and_whole_numbers(self):
        for many in range(5):
            for switch in some_switches(many):
                self.same(read_switch(switch_by_words(switch)), switch)

    def read_as_written(self, text):
        if text in ALL_SWITCHES:
            self.same(read_switch(text), ALL_SWITCHES[text])
        else:
            self.refused(NoText, read_switch, text)

    def test_what_is_not_written_so(self):
        for text in ["", ":", "0", "1", "2", "0:", ":0", ":01", "1:", "2:", "0:2", "0:00", "0:01", "1:0", "1:011",
                     "2:011", "2:01100", "2;0110", "2 0110", "2: 0110", "2 :0110", " 2:0110", "2:0110 ", "2:0110\n",
                     "\n2:0110", "2:01 10", "2:0,1,1,0", "02:0110", "+2:0110", "-2:0110", "2::0110", "2:0120", "2:-110",
                     "2:O110", "two:0110", "3:0110", "1:0110", "2_:0110", "2:0_10", "2.:0110", "5:" + "01" * 16, "5:0",
                     "-1:", "-1:0", "6:" + "0" * 64, "9:0110", "(2, (0, 1, 1, 0))", "2:0b10", "None:", "2:FTTF",
                     "4:011010011111000", "4:01101001111100000", "2:0110\n2:0110", "2:01\n10", "2:0110:0110", "~", "=",
                     "!", "new"]:
            self.assertNotIn(text, ALL_SWITCHES)
            self.refused(NoText, read_switch, text)

    def test_all_short_texts(self):
        for length in range(5):
            for signs in itertools.product("0125:- +\n", repeat=length):
                self.read_as_written("".join(signs))

    def test_each_sign_at_each_place(self):
        for sign in SIGNS:
            for place in range(4):
                text = "1:01"
                self.read_as_written(text[:place] + sign + text[place + 1:])

    def test_all_rows_of_figures_behind_all_figures(self):
        for many in range(10):
            for length in range(0, 33):
                for start in ("0", "01", "1101"):
                    self.read_as_written(str(many) + ":" + (start * 33)[:length])

    def test_spoilt(self):
        for switch in SOME_SWITCHES + TOO_MANY[:1]:
            for text in spoilt(switch_by_words(switch) if switch[0] < 5 else "5:" + "01" * 16):
                self.read_as_written(text)

    def test_no_text_at_all(self):
        for thing in THINGS:
            if not isinstance(thing, str):
                self.refused(NoText, read_switch, thing)

    def test_switch_text_of_no_function(self):
        for thing in NO_SWITCHES:
            self.refused(NoSwitch, switch_text, thing)


class TextsOfMoves(Asking, unittest.TestCase):
    """7.1, 7.2 and 0.2 (g), of moves"""

    def test_by_hand(self):
        for many, move, text in [(0, ((), (), 0), "="), (0, ((), (), 1), "!"), (1, ((0,), (0,), 0), "0 ="),
                                 (1, ((0,), (1,), 1), "-0 !"), (2, ((1, 0), (0, 1), 0), "1 -0 ="),
                                 (2, ((1, 0), (1, 0), 1), "-1 0 !"), (3, ((1, 2, 0), (1, 0, 0), 1), "-1 2 0 !"),
                                 (4, ((3, 0, 2, 1), (0, 1, 1, 0), 0), "3 -0 -2 1 =")]:
            self.same(move_text(many, move), text)
            self.same(read_move(many, text), move)

    def test_all_are_written_and_read_again(self):
        for many, count in enumerate((2, 4, 16, 96, 768)):
            self.assertEqual(len(ALL_MOVES[many]), count)
            for text, move in ALL_MOVES[many].items():
                self.same(move_text(many, move), text)
                self.same(read_move(many, text), move)

    def test_still(self):
        self.same([move_text(many, still(many)) for many in range(5)], ["=", "0 =", "0 1 =", "0 1 2 =", "0 1 2 3 ="])

    def read_as_written(self, many, text):
        if text in ALL_MOVES[many]:
            self.same(read_move(many, text), ALL_MOVES[many][text])
        else:
            self.refused(NoText, read_move, many, text)

    def test_of_another_number_of_names(self):
        for many, other in itertools.permutations(range(5), 2):
            for text in ALL_MOVES[other]:
                self.refused(NoText, read_move, many, text)

    def test_what_is_not_written_so(self):
        for text in ["", " ", "=", "!", "1 0", "1 0 ", "1 0=", "10 =", "1  0 =", " 1 0 =", "1 0 = ", "1 0 =\n",
                     "1\n0 =", "1 0 = =", "1 0 =!", "1 0 !=", "= 1 0", "1 1 =", "0 2 =", "-1 -1 =", "1 +0 =", "+1 0 =",
                     "1 - 0 =", "1 --0 =", "--1 0 =", "1 0- =", "1-0 =", "1 -0", "01 0 =", "1 00 =", "1 -00 =", "1 a =",
                     "1 0 -", "1 0 1", "1 0 0", "1 0 -=", "1 0 -!", "0 =", "0 1 2 =", "1, 0 =", "1 0 \n=", "x1 0 =",
                     "1 x0 =", "1 =0 =", "-10 =", "1 -1 =", "1 5 =", "1 4 =", "1 9 =", "1 -0 =\n1 -0 =", "1 ! =",
                     "1  =", "1 0 +"]:
            self.assertNotIn(text, ALL_MOVES[2])
            self.refused(NoText, read_move, 2, text)

    def test_all_short_texts(self):
        for length in range(6):
            for signs in itertools.product("012- =!", repeat=length):
                text = "".join(signs)
                for many in (0, 1, 2):
                    self.read_as_written(many, text)

    def test_each_sign_at_each_place(self):
        for sign in SIGNS:
            for place in range(6):
                self.read_as_written(2, "1 -0 ="[:place] + sign + "1 -0 ="[place + 1:])

    def test_all_rows_of_figures(self):
        for many in range(5):
            for order in itertools.product(range(-1, 5), repeat=many):
                for end in ("=", "!"):
                    self.read_as_written(many, " ".join([str(name) for name in order] + [end]))

    def test_spoilt(self):
        for move in SOME_MOVES:
            many = len(move[0])
            for text in spoilt(move_by_words(move)):
                self.read_as_written(many, text)

    def test_numbers_of_names_that_cannot_be(self):
        for many in no_wholes(0, 4):
            for text in ("", "=", "!", "0 =", "0 1 =", "0 1 2 3 4 =", "4 -3 2 1 0 !", "0 1 2 3 4 5 ="):
                self.refused(NoText, read_move, many, text)

    def test_no_text_at_all(self):
        for many in range(5):
            for thing in THINGS:
                if not isinstance(thing, str):
                    self.refused(NoText, read_move, many, thing)

    def test_move_text_of_no_move_of_so_many_names(self):
        for many in range(5):
            for thing in no_moves(many):
                self.refused(NoMove, move_text, many, thing)

    def test_move_text_of_no_number_of_names(self):
        for many in no_wholes(0, 4):
            for move in SOME_MOVES + TOO_LONG:
                self.refused(NoMove, move_text, many, move)
        self.refused(NoMove, move_text, True, ((0,), (0,), 0))
        self.refused(NoMove, move_text, False, ((), (), 0))
        self.refused(NoMove, move_text, 5, TOO_LONG[0])
        self.refused(NoMove, move_text, -1, ((), (), 0))


if __name__ == "__main__":
    unittest.main()
