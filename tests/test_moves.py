"""Stage 2, moves: 2.1, 2.2, 2.3, and 0.2 (b) and 0.3 as far as moves go."""

import itertools
import unittest

from switchkinds.errors import NoMove, NoName, NoSwitch
from switchkinds.moves import all_moves, back, behind, is_move, moved, still
from switchkinds.switches import both, single, turned
from things import (
    NO_SWITCHES, SOME_MOVES, SOME_SWITCHES, THINGS, TOO_LONG, Asking, moved_by_words, moves_by_words, near_things,
    no_moves, no_wholes, some_moves, some_switches, written_as_move)


class WhatAMoveIs(Asking, unittest.TestCase):
    """2.1"""

    def test_all_moves_are_moves_of_their_number_of_names_alone(self):
        for many, other in itertools.product(range(5), repeat=2):
            for move in moves_by_words(many):
                self.assertIs(is_move(other, move), many == other)

    def test_any_thing_is_told_true_or_false(self):
        for many in range(5):
            for thing in THINGS:
                ahead = repr(thing)
                self.assertIs(is_move(many, thing), written_as_move(many, thing), ahead)
                self.assertEqual(repr(thing), ahead)

    def test_any_thing_as_a_number_of_names(self):
        for many in no_wholes(0, 4):
            for thing in SOME_MOVES + TOO_LONG + [None, 0, [], (), "move"]:
                self.assertIs(is_move(many, thing), False)

    def test_numbers_of_names_that_cannot_be(self):
        for move in TOO_LONG:
            self.assertIs(is_move(5, move), False)
        self.assertIs(is_move(-1, ((), (), 0)), False)
        self.assertIs(is_move(False, ((), (), 0)), False)
        self.assertIs(is_move(True, ((0,), (0,), 0)), False)

    def test_order_holds_each_name_once(self):
        for many in range(5):
            for order in itertools.product(range(-1, many + 1), repeat=many):
                self.assertIs(is_move(many, (order, (0,) * many, 0)), sorted(order) == list(range(many)))

    def test_turns_and_whole_are_0_or_1(self):
        for many in range(4):
            names = tuple(range(many))
            for turns in itertools.product((-1, 0, 1, 2), repeat=many):
                self.assertIs(is_move(many, (names, turns, 0)), set(turns) <= {0, 1})
            for whole in (-1, 2, None, True, False, "0", (0,), [0]):
                self.assertIs(is_move(many, (names, (0,) * many, whole)), False)

    def test_truths_and_lists_within(self):
        for thing in [((True, 0), (0, 0), 0), ((1, False), (0, 0), 0), ((1, 0), (True, 0), 0), ((1, 0), (0, False), 0),
                      ((1, 0), (0, 0), True), ((1, 0), (0, 0), False), ([1, 0], (0, 0), 0), ((1, 0), [0, 0], 0),
                      [(1, 0), (0, 0), 0], ((1, 0), (0, 0)), ((1, 0), (0, 0), 0, 0)]:
            self.assertIs(is_move(2, thing), False, thing)

    def test_things_around_moves_of_4_names(self):
        for move in moves_by_words(4)[::97]:
            for thing in near_things(move):
                self.assertIs(is_move(4, thing), written_as_move(4, thing))


class Moving(Asking, unittest.TestCase):
    """2.2, ordinary inputs"""

    def test_by_hand(self):
        self.same(moved((2, (0, 1, 0, 1)), ((1, 0), (0, 0), 0)), (2, (0, 0, 1, 1)))
        self.same(moved((2, (0, 0, 0, 1)), ((0, 1), (1, 0), 0)), (2, (0, 0, 1, 0)))
        self.same(moved((2, (0, 0, 0, 1)), ((1, 0), (1, 0), 0)), (2, (0, 1, 0, 0)))
        self.same(moved((2, (0, 0, 0, 1)), ((1, 0), (1, 0), 1)), (2, (1, 0, 1, 1)))
        self.same(moved((0, (0,)), ((), (), 0)), (0, (0,)))
        self.same(moved((0, (0,)), ((), (), 1)), (0, (1,)))
        self.same(moved((1, (0, 1)), ((0,), (1,), 1)), (1, (0, 1)))

    def test_a_name_is_led_to_that_which_stands_at_its_place(self):
        for many in range(5):
            for order, turns, whole in moves_by_words(many):
                for name in range(many):
                    wanted = single(many, order[name])
                    if turns[name] != whole:
                        wanted = turned(wanted)
                    self.same(moved(single(many, name), (order, turns, whole)), wanted)

    def test_by_the_words(self):
        for many in range(5):
            some = some_switches(many, {3: 7, 4: 4999}.get(many))
            for switch, move in itertools.product(some, some_moves(many)):
                self.same(moved(switch, move), moved_by_words(switch, move))

    def test_still(self):
        self.same([still(many) for many in range(5)], [
            ((), (), 0), ((0,), (0,), 0), ((0, 1), (0, 0), 0), ((0, 1, 2), (0, 0, 0), 0),
            ((0, 1, 2, 3), (0, 0, 0, 0), 0)])
        for many in range(5):
            for switch in some_switches(many):
                self.same(moved(switch, still(many)), switch)

    def test_all_moves(self):
        self.same(all_moves(0), [((), (), 0), ((), (), 1)])
        self.same(all_moves(1), [((0,), (0,), 0), ((0,), (0,), 1), ((0,), (1,), 0), ((0,), (1,), 1)])
        for many, count in enumerate((2, 4, 16, 96)):
            self.same(all_moves(many), moves_by_words(many))
            self.assertEqual(len(all_moves(many)), count)


class WhatMovesRefuse(Asking, unittest.TestCase):
    """2.2, 2.3 and 0.3, wrong inputs"""

    def test_moved_of_no_function(self):
        for thing in NO_SWITCHES:
            for move in SOME_MOVES:
                self.refused(NoSwitch, moved, thing, move)

    def test_moved_by_no_move_of_its_names(self):
        for switch in SOME_SWITCHES:
            for thing in no_moves(switch[0]):
                self.refused(NoMove, moved, switch, thing)

    def test_no_switch_ahead_of_no_move(self):
        for thing in NO_SWITCHES:
            for move in (None, (), ((), (), 2), ((0,), (True,), 0), thing):
                self.refused(NoSwitch, moved, thing, move)

    def test_still_of_no_number_of_names(self):
        for many in no_wholes(0, 4):
            self.refused(NoName, still, many)
        for many in (-1, 5, True, False):
            self.refused(NoName, still, many)

    def test_all_moves_from_0_to_3_alone(self):
        for many in no_wholes(0, 3):
            self.refused(NoName, all_moves, many)
        for many in (-1, 4, 5, True, False):
            self.refused(NoName, all_moves, many)

    def test_behind_and_back_of_no_move(self):
        for thing in THINGS:
            if not any(written_as_move(many, thing) for many in range(5)):
                self.refused(NoMove, back, thing)
                self.refused(NoMove, behind, thing, thing)
                for move in SOME_MOVES:
                    self.refused(NoMove, behind, thing, move)
                    self.refused(NoMove, behind, move, thing)

    def test_behind_and_back_of_too_many_names(self):
        for move in TOO_LONG:
            self.refused(NoMove, back, move)
            self.refused(NoMove, behind, move, move)

    def test_behind_of_unlike_numbers_of_names(self):
        for one, other in itertools.product(SOME_MOVES, repeat=2):
            if len(one[0]) != len(other[0]):
                self.refused(NoMove, behind, one, other)


class OneBehindTheOther(Asking, unittest.TestCase):
    """2.3 and 0.2 (b)"""

    def pairs(self, many):
        if many < 4:
            return itertools.product(moves_by_words(many), repeat=2)
        return itertools.product(moves_by_words(4)[::13], moves_by_words(4)[5::17])

    def test_by_hand(self):
        self.same(behind(((1, 0), (1, 0), 0), ((0, 1), (1, 0), 0)), ((1, 0), (1, 1), 0))
        self.same(behind(((0, 1), (1, 0), 0), ((1, 0), (1, 0), 1)), ((1, 0), (0, 0), 1))
        self.same(behind(((1, 2, 0), (0, 0, 0), 1), ((1, 0, 2), (0, 0, 0), 1)), ((0, 2, 1), (0, 0, 0), 0))
        self.same(behind(((), (), 1), ((), (), 1)), ((), (), 0))
        self.same(back(((1, 2, 0), (1, 0, 0), 1)), ((2, 0, 1), (0, 1, 0), 1))
        self.same(back(((), (), 1)), ((), (), 1))

    def test_behind_does_the_one_and_then_the_other(self):
        for many in range(5):
            some = some_switches(many, {0: 1, 1: 1, 2: 1, 3: 83, 4: 21001}[many])
            for one, other in self.pairs(many):
                move = behind(one, other)
                self.assertTrue(written_as_move(many, move))
                for switch in some:
                    self.same(moved(switch, move), moved_by_words(moved_by_words(switch, one), other))

    def test_back_leads_back(self):
        for many in range(5):
            for move in moves_by_words(many):
                self.assertTrue(written_as_move(many, back(move)))
                self.same(behind(move, back(move)), still(many))
                self.same(behind(back(move), move), still(many))
                self.same(back(back(move)), move)
                for switch in some_switches(many, {4: 21001}.get(many, 5)):
                    self.same(moved(moved(switch, move), back(move)), switch)

    def test_still_changes_no_move(self):
        for many in range(5):
            for move in moves_by_words(many):
                self.same(behind(move, still(many)), move)
                self.same(behind(still(many), move), move)

    def test_back_of_two(self):
        for many in range(5):
            for one, other in self.pairs(many):
                self.same(back(behind(one, other)), behind(back(other), back(one)))

    def test_three_behind_one_another(self):
        for many in range(5):
            some = moves_by_words(many)[::{3: 5, 4: 41}.get(many, 1)]
            for one, other, third in itertools.product(some, repeat=3):
                self.same(behind(behind(one, other), third), behind(one, behind(other, third)))

    def test_moves_lead_joined_functions_as_they_lead_each(self):
        for many in range(5):
            some = some_switches(many, {0: 1, 1: 1, 2: 3, 3: 83, 4: 21001}[many])
            for order, turns, whole in some_moves(many):
                move = (order, turns, 0)
                for one, other in itertools.product(some, repeat=2):
                    self.same(moved(both(one, other), move), both(moved(one, move), moved(other, move)))


class WhatIsToldAndHandedIn(Asking, unittest.TestCase):
    """0.3"""

    def test_told_lists_are_new_ones(self):
        for many in range(4):
            self.new_each_time(all_moves, many)

    def test_refused_lists_are_as_they_were(self):
        self.refused(NoMove, moved, (2, (0, 1, 1, 0)), [[1, 0], [0, 0], 0])
        self.refused(NoMove, back, ([1, 0], [0, 0], 0))
        self.refused(NoMove, behind, ((1, 0), (0, 0), 0), [(1, 0), [0, 0], 0])


if __name__ == "__main__":
    unittest.main()
