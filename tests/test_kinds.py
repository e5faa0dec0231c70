"""Stage 3, kinds: 3.1 to 3.4, 0.2 (c), and 0.3 and 1.2 as far as kinds go."""

import itertools
import unittest

from switchkinds.errors import NoName, NoSwitch, Unlike
from switchkinds.kinds import (
    all_kinds, are_kin, how_many_kinds, is_why_not, keepers, kin_of, least_form, moves_to, why_not)
from switchkinds.moves import moved
from things import (
    NO_SWITCHES, SOME_SWITCHES, THINGS, Asking, moved_by_words, moves_by_words, near_things, no_wholes, some_switches,
    switches_by_words)

OF_ONE = [least_form, kin_of, keepers]
OF_TWO = [are_kin, moves_to, why_not]
OF_FOUR = some_switches(4, 9973)
# By the document's words: to what each function of 0 to 3 names is led, move by move.
LED = {switch: [moved_by_words(switch, move) for move in moves_by_words(many)]
       for many in range(4) for switch in switches_by_words(many)}


def some_pairs(many):
    """Pairs of functions, kin and no kin."""
    if many < 3:
        return list(itertools.product(switches_by_words(many), repeat=2))
    far = itertools.product(some_switches(3, 23), some_switches(3, 7))
    near = [(switch, LED[switch][place % 96]) for place, switch in enumerate(switches_by_words(3))]
    return list(far) + near


def is_paper_by_words(one, other, thing):
    """Whether for each move a setting's number stands in the tuple at which it does not lead to the other."""
    if type(thing) is not tuple or len(thing) != len(LED[one]):
        return False
    for led, number in zip(LED[one], thing):
        if type(number) is not int or number < 0 or number >= len(other[1]):
            return False
        if led[1][number] == other[1][number]:
            return False
    return True


def papers_by_words(one, other):
    """Papers of no kin: with the first, with the last, and with ever other settings that show it."""
    shown = [[number for number, worth in enumerate(led[1]) if worth != other[1][number]] for led in LED[one]]
    return [tuple(numbers[0] for numbers in shown), tuple(numbers[-1] for numbers in shown),
            tuple(numbers[place % len(numbers)] for place, numbers in enumerate(shown))]


class Kin(Asking, unittest.TestCase):
    """3.1 and 3.2, ordinary inputs"""

    def test_by_hand(self):
        self.same(least_form((2, (1, 1, 1, 0))), (2, (0, 0, 0, 1)))
        self.same(least_form((1, (1, 0))), (1, (0, 1)))
        self.same(least_form((0, (1,))), (0, (0,)))
        self.same(least_form((3, (1, 0, 0, 1, 0, 1, 1, 0))), (3, (0, 1, 1, 0, 1, 0, 0, 1)))
        self.same(kin_of((0, (1,))), [(0, (0,)), (0, (1,))])
        self.same(kin_of((1, (1, 1))), [(1, (0, 0)), (1, (1, 1))])
        self.same(kin_of((2, (0, 1, 1, 0))), [(2, (0, 1, 1, 0)), (2, (1, 0, 0, 1))])
        self.same(kin_of((2, (0, 1, 0, 1))), [
            (2, (0, 0, 1, 1)), (2, (0, 1, 0, 1)), (2, (1, 0, 1, 0)), (2, (1, 1, 0, 0))])
        self.same(keepers((0, (0,))), [((), (), 0)])
        self.same(keepers((1, (0, 1))), [((0,), (0,), 0), ((0,), (1,), 1)])
        self.same(keepers((2, (0, 0, 0, 1))), [((0, 1), (0, 0), 0), ((1, 0), (0, 0), 0)])
        self.same(moves_to((2, (0, 0, 0, 1)), (2, (0, 0, 1, 0))), [((0, 1), (1, 0), 0), ((1, 0), (0, 1), 0)])
        self.same(moves_to((0, (0,)), (0, (1,))), [((), (), 1)])
        self.same(moves_to((1, (0, 0)), (1, (0, 1))), [])
        self.assertIs(are_kin((2, (0, 0, 0, 1)), (2, (1, 0, 1, 1))), True)
        self.assertIs(are_kin((2, (0, 0, 0, 1)), (2, (0, 1, 1, 0))), False)

    def test_one_function_by_the_words(self):
        for switch, led in LED.items():
            self.same(least_form(switch), min(led))
            self.same(kin_of(switch), sorted(set(led)))
            self.same(keepers(switch), [move for move, to in zip(moves_by_words(switch[0]), led) if to == switch])

    def test_two_functions_by_the_words(self):
        for many in range(4):
            for one, other in some_pairs(many):
                self.assertIs(are_kin(one, other), other in LED[one])
                self.same(moves_to(one, other),
                          [move for move, to in zip(moves_by_words(many), LED[one]) if to == other])


class AllKinds(Asking, unittest.TestCase):
    """3.3"""

    def test_by_hand(self):
        self.same(all_kinds(0), [(0, (0,))])
        self.same(all_kinds(1), [(1, (0, 0)), (1, (0, 1))])
        self.same(all_kinds(2), [(2, (0, 0, 0, 0)), (2, (0, 0, 0, 1)), (2, (0, 0, 1, 1)), (2, (0, 1, 1, 0))])
        self.same([how_many_kinds(many) for many in range(4)], [1, 2, 4, 14])

    def test_by_the_words(self):
        for many in range(4):
            forms = sorted({min(LED[switch]) for switch in switches_by_words(many)})
            self.same(how_many_kinds(many), len(forms))
            if many < 3:
                self.same(all_kinds(many), forms)

    def test_all_kinds_from_0_to_2_alone(self):
        for many in no_wholes(0, 2) + [-1, 3, 4, 5, True, False]:
            self.refused(NoName, all_kinds, many)

    def test_how_many_kinds_from_0_to_3_alone(self):
        for many in no_wholes(0, 3) + [-1, 4, 5, True, False]:
            self.refused(NoName, how_many_kinds, many)


class Papers(Asking, unittest.TestCase):
    """3.4"""

    def test_none_of_kin(self):
        for many in range(4):
            for one, other in some_pairs(many):
                if other in LED[one]:
                    self.assertIsNone(why_not(one, other))

    def test_a_paper_of_no_kin(self):
        for many in range(4):
            for one, other in some_pairs(many):
                if other not in LED[one]:
                    paper = why_not(one, other)
                    self.assertTrue(is_paper_by_words(one, other, paper), paper)
                    self.assertIs(is_why_not(one, other, paper), True)

    def test_all_papers_are_papers(self):
        for many in range(4):
            for one, other in some_pairs(many)[::1 if many < 3 else 5]:
                if other not in LED[one]:
                    for paper in papers_by_words(one, other):
                        self.assertIs(is_why_not(one, other, paper), True)

    def test_all_tuples_of_one_name(self):
        for one, other in itertools.product(switches_by_words(1), repeat=2):
            for paper in itertools.product((0, 1), repeat=4):
                self.assertIs(is_why_not(one, other, paper), is_paper_by_words(one, other, paper))

    def test_each_number_at_each_place(self):
        for many, pairs in ((2, some_pairs(2)), (3, [((3, (0, 0, 0, 1, 0, 1, 1, 1)), (3, (0, 1, 1, 1, 0, 0, 0, 1)))])):
            for one, other in pairs:
                if other not in LED[one]:
                    paper = why_not(one, other)
                    for place, number in itertools.product(range(len(paper)), range(-1, 2 ** many + 1)):
                        thing = paper[:place] + (number,) + paper[place + 1:]
                        self.assertIs(is_why_not(one, other, thing), is_paper_by_words(one, other, thing))

    def test_kin_have_no_paper(self):
        for one, other in (((0, (0,)), (0, (1,))), ((0, (1,)), (0, (1,))), ((1, (0, 1)), (1, (1, 0)))):
            for paper in itertools.product((0, 1), repeat=len(LED[one])):
                self.assertIs(is_why_not(one, other, paper), False)
        one, other = (2, (0, 0, 0, 1)), (2, (0, 1, 1, 1))
        for number in range(4):
            self.assertIs(is_why_not(one, other, (number,) * 16), False)

    def test_any_thing_is_told_true_or_false(self):
        for one, other in (((0, (0,)), (0, (1,))), ((1, (0, 0)), (1, (0, 1))), ((2, (0, 0, 0, 1)), (2, (0, 1, 1, 0)))):
            for thing in THINGS:
                ahead = repr(thing)
                self.assertIs(is_why_not(one, other, thing), is_paper_by_words(one, other, thing), ahead)
                self.assertEqual(repr(thing), ahead)

    def test_things_around_papers(self):
        for one, other in (((1, (0, 0)), (1, (0, 1))), ((1, (1, 0)), (1, (1, 1))),
                           ((2, (0, 0, 0, 1)), (2, (0, 1, 1, 0))), ((2, (0, 0, 1, 1)), (2, (1, 1, 0, 1)))):
            for thing in near_things(why_not(one, other)):
                self.assertIs(is_why_not(one, other, thing), is_paper_by_words(one, other, thing))
        one, other = (3, (0, 0, 0, 1, 0, 1, 1, 1)), (3, (0, 0, 0, 0, 0, 0, 0, 1))
        for thing in list(near_things(why_not(one, other)))[::5]:
            self.assertIs(is_why_not(one, other, thing), is_paper_by_words(one, other, thing))

    def test_truths_and_none(self):
        one, other = (1, (0, 0)), (1, (0, 1))
        paper = why_not(one, other)
        self.assertTrue(any(number in (0, 1) for number in paper))
        self.assertIs(is_why_not(one, other, tuple(bool(number) for number in paper)), False)
        self.assertIs(is_why_not(one, other, list(paper)), False)
        self.assertIs(is_why_not(one, other, None), False)
        self.assertIs(is_why_not((0, (0,)), (0, (0,)), None), False)

    def test_a_paper_the_other_way_is_no_paper_unless_it_shows_it(self):
        for one, other in some_pairs(2):
            if other not in LED[one]:
                paper = why_not(one, other)
                self.assertIs(is_why_not(other, one, paper), is_paper_by_words(other, one, paper))


class WhatKindsRefuse(Asking, unittest.TestCase):
    """1.2, 3.2 and 0.3, wrong inputs"""

    def test_what_is_no_function(self):
        for thing in NO_SWITCHES:
            for asked in OF_ONE:
                self.refused(NoSwitch, asked, thing)
            for asked in OF_TWO:
                self.refused(NoSwitch, asked, thing, (2, (0, 1, 1, 0)))
                self.refused(NoSwitch, asked, (2, (0, 1, 1, 0)), thing)
                self.refused(NoSwitch, asked, thing, thing)
            self.refused(NoSwitch, is_why_not, thing, (1, (0, 1)), (0, 0, 0, 0))
            self.refused(NoSwitch, is_why_not, (1, (0, 1)), thing, (0, 0, 0, 0))
            self.refused(NoSwitch, is_why_not, thing, thing, thing)

    def test_unlike_numbers_of_names(self):
        for one, other in itertools.product(SOME_SWITCHES, repeat=2):
            if one[0] != other[0]:
                for asked in OF_TWO:
                    self.refused(Unlike, asked, one, other)
                for thing in (None, (), (0,) * 16, [0], True):
                    self.refused(Unlike, is_why_not, one, other, thing)

    def test_functions_of_4_names(self):
        for one in OF_FOUR:
            for asked in OF_ONE:
                self.refused(NoName, asked, one)
            for other in OF_FOUR:
                for asked in OF_TWO:
                    self.refused(NoName, asked, one, other)
                for thing in (None, (), (0,) * 768, (15,) * 768, "paper"):
                    self.refused(NoName, is_why_not, one, other, thing)

    def test_no_switch_ahead_of_no_name(self):
        for thing in NO_SWITCHES:
            for asked in OF_TWO:
                self.refused(NoSwitch, asked, thing, OF_FOUR[1])
                self.refused(NoSwitch, asked, OF_FOUR[1], thing)
            self.refused(NoSwitch, is_why_not, OF_FOUR[1], thing, None)
            self.refused(NoSwitch, is_why_not, thing, OF_FOUR[1], None)

    def test_unlike_ahead_of_no_name(self):
        for one, four in itertools.product(SOME_SWITCHES[:5], OF_FOUR):
            for asked in OF_TWO:
                self.refused(Unlike, asked, one, four)
                self.refused(Unlike, asked, four, one)
            self.refused(Unlike, is_why_not, one, four, (0,))
            self.refused(Unlike, is_why_not, four, one, None)


class KinAndLeastForms(Asking, unittest.TestCase):
    """0.2 (c)"""

    def test_kin_just_if_the_least_forms_are_the_same(self):
        for many in range(4):
            for one, other in some_pairs(many):
                kin = least_form(one) == least_form(other)
                self.assertIs(are_kin(one, other), kin)
                self.assertIs(moves_to(one, other) != [], kin)
                self.assertIs(why_not(one, other) is None, kin)
                self.assertIs(other in kin_of(one), kin)

    def test_as_many_are_kin_as_there_are_moves_by_those_that_keep_one(self):
        for many in range(4):
            for switch in switches_by_words(many):
                self.assertEqual(len(kin_of(switch)) * len(keepers(switch)), len(moves_by_words(many)))

    def test_all_to_which_moves_lead_have_one_least_form(self):
        for many in range(4):
            for switch in some_switches(many, {3: 17}.get(many)):
                for move in moves_by_words(many):
                    self.same(least_form(moved(switch, move)), least_form(switch))

    def test_moves_to_as_many_as_keepers(self):
        for many in range(4):
            for one, other in some_pairs(many):
                found = moves_to(one, other)
                self.assertIn(len(found), (0, len(keepers(one))))
                for move in found:
                    self.same(moved(one, move), other)

    def test_all_kinds_together_are_all_functions(self):
        for many in range(3):
            found = [switch for form in all_kinds(many) for switch in kin_of(form)]
            self.same(sorted(found), switches_by_words(many))


class WhatIsTold(Asking, unittest.TestCase):
    """0.3"""

    def test_told_lists_are_new_ones(self):
        for switch in SOME_SWITCHES[:5]:
            self.new_each_time(kin_of, switch)
            self.new_each_time(keepers, switch)
            self.new_each_time(moves_to, switch, switch)
        self.new_each_time(moves_to, (1, (0, 0)), (1, (0, 1)))
        for many in range(3):
            self.new_each_time(all_kinds, many)

    def test_papers_are_tuples(self):
        self.assertIs(type(why_not((1, (0, 0)), (1, (0, 1)))), tuple)


if __name__ == "__main__":
    unittest.main()
