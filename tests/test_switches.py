"""Stage 1, functions: 1.1, 1.2, 1.3, and 0.2 (a) and 0.3 as far as functions go."""

import itertools
import unittest

from switchkinds.errors import NoName, NoSwitch, Unlike
from switchkinds.switches import (
    all_switches, both, constant, either, is_switch, of_ones, ones, single, turned, unlike, worth_at)
from things import (
    NO_SWITCHES, SOME_SWITCHES, THINGS, TOO_MANY, Asking, near_things, no_settings, no_wholes, settings_by_words,
    some_switches, switches_by_words, written_as_switch)

JOINS = [both, either, unlike]
JOINED = {both: (0, 0, 0, 1), either: (0, 1, 1, 1), unlike: (0, 1, 1, 0)}


class WhatAFunctionIs(Asking, unittest.TestCase):
    """1.1"""

    def test_all_functions_are_functions(self):
        for many in range(5):
            for switch in some_switches(many):
                self.assertIs(is_switch(switch), True, switch)

    def test_any_thing_is_told_true_or_false(self):
        for thing in THINGS:
            ahead = repr(thing)
            self.assertIs(is_switch(thing), written_as_switch(thing), ahead)
            self.assertEqual(repr(thing), ahead)

    def test_truths_are_no_whole_numbers(self):
        for thing in [(True, (0, 1)), (False, (0,)), (0, (False,)), (0, (True,)), (1, (0, True)), (1, (False, 1)),
                      (2, (0, 1, True, 0))]:
            self.assertIs(is_switch(thing), False, thing)

    def test_lists_are_no_tuples(self):
        for thing in [[1, (0, 1)], (1, [0, 1]), [1, [0, 1]], (1, ([0], 1)), (1, ((0,), 1))]:
            self.assertIs(is_switch(thing), False, thing)

    def test_numbers_of_names_that_cannot_be(self):
        for thing in TOO_MANY:
            self.assertIs(is_switch(thing), False, thing)

    def test_as_many_worths_as_settings(self):
        for many in range(5):
            for length in range(35):
                self.assertIs(is_switch((many, (0,) * length)), length == 2 ** many)

    def test_worths_are_0_and_1_at_each_place(self):
        for many in range(5):
            for place in range(2 ** many):
                for wrong in (2, -1, None, "0", True, False, (0,), [1]):
                    worths = [0] * 2 ** many
                    worths[place] = wrong
                    self.assertIs(is_switch((many, tuple(worths))), False)

    def test_things_around_functions_of_4_names(self):
        for switch in some_switches(4, 9973):
            for thing in near_things(switch):
                self.assertIs(is_switch(thing), written_as_switch(thing))


class WhatFunctionsTell(Asking, unittest.TestCase):
    """1.2, ordinary inputs"""

    def test_worths_stand_by_the_numbers_of_settings(self):
        xs = (4, (0, 1, 0, 0, 0, 0, 0, 0, 1, 0, 0, 0, 0, 0, 0, 0))
        self.same(worth_at(xs, (1, 0, 0, 0)), 1)
        self.same(worth_at(xs, (0, 0, 0, 1)), 1)
        self.same(worth_at(xs, (0, 1, 0, 0)), 0)
        self.same(worth_at((0, (1,)), ()), 1)
        self.same(worth_at((0, (0,)), ()), 0)
        self.same(worth_at((3, (0, 0, 0, 0, 0, 0, 1, 0)), (0, 1, 1)), 1)

    def test_worth_at_all_settings(self):
        for many in range(5):
            for switch in some_switches(many):
                self.same([worth_at(switch, setting) for setting in settings_by_words(many)], list(switch[1]))

    def test_ones(self):
        self.same(ones((2, (0, 1, 1, 0))), [1, 2])
        self.same(ones((0, (0,))), [])
        self.same(ones((0, (1,))), [0])
        self.same(ones((4, (1,) * 16)), list(range(16)))
        for many in range(5):
            for switch in some_switches(many):
                self.same(ones(switch), [place for place in range(2 ** many) if switch[1][place] == 1])

    def test_turned(self):
        self.same(turned((2, (0, 1, 1, 1))), (2, (1, 0, 0, 0)))
        for many in range(5):
            for switch in some_switches(many):
                self.same(turned(switch), (many, tuple(0 if worth else 1 for worth in switch[1])))

    def test_joins_of_two_names(self):
        one, other = (2, (0, 1, 0, 1)), (2, (0, 0, 1, 1))
        self.same(both(one, other), (2, (0, 0, 0, 1)))
        self.same(either(one, other), (2, (0, 1, 1, 1)))
        self.same(unlike(one, other), (2, (0, 1, 1, 0)))

    def test_joins_setting_by_setting(self):
        for many in range(5):
            some = some_switches(many, 1 if many < 3 else 5 if many == 3 else 997)
            for one, other in itertools.product(some, repeat=2):
                for join in JOINS:
                    worths = tuple(JOINED[join][2 * here + there] for here, there in zip(one[1], other[1]))
                    self.same(join(one, other), (many, worths))


class WhatFunctionsRefuse(Asking, unittest.TestCase):
    """1.2 and 0.3, wrong inputs"""

    def test_what_is_no_function(self):
        for thing in NO_SWITCHES:
            self.refused(NoSwitch, ones, thing)
            self.refused(NoSwitch, turned, thing)
            self.refused(NoSwitch, worth_at, thing, ())

    def test_no_function_on_either_side_of_a_join(self):
        for join in JOINS:
            for thing in NO_SWITCHES:
                self.refused(NoSwitch, join, thing, (2, (0, 1, 1, 0)))
                self.refused(NoSwitch, join, (2, (0, 1, 1, 0)), thing)
                self.refused(NoSwitch, join, thing, thing)

    def test_unlike_numbers_of_names(self):
        for join in JOINS:
            for one, other in itertools.product(SOME_SWITCHES, repeat=2):
                if one[0] != other[0]:
                    self.refused(Unlike, join, one, other)

    def test_no_switch_ahead_of_unlike(self):
        for join in JOINS:
            for thing in [(5, (0,) * 32), (3, (0, 1)), (1, (0, True)), (True, (0, 1)), None]:
                self.refused(NoSwitch, join, (2, (0, 1, 1, 0)), thing)
                self.refused(NoSwitch, join, thing, (2, (0, 1, 1, 0)))

    def test_no_setting_of_its_names(self):
        for switch in SOME_SWITCHES:
            for thing in no_settings(switch[0]):
                self.refused(NoName, worth_at, switch, thing)

    def test_settings_of_other_numbers_of_names(self):
        for many, other in itertools.product(range(5), repeat=2):
            for setting in settings_by_words(other):
                if many != other:
                    self.refused(NoName, worth_at, (many, (0,) * 2 ** many), setting)

    def test_no_switch_ahead_of_no_name(self):
        for thing in NO_SWITCHES:
            for setting in (None, (2,), (True,), [0], (0, 0, 0, 0, 0), 0):
                self.refused(NoSwitch, worth_at, thing, setting)


class Making(Asking, unittest.TestCase):
    """1.3"""

    def test_of_ones(self):
        self.same(of_ones(2, [1, 2]), (2, (0, 1, 1, 0)))
        self.same(of_ones(2, [2, 1, 2, 2]), (2, (0, 1, 1, 0)))
        self.same(of_ones(0, []), (0, (0,)))
        self.same(of_ones(0, [0]), (0, (1,)))
        self.same(of_ones(4, [15]), (4, (0,) * 15 + (1,)))

    def test_of_ones_leads_back_from_ones(self):
        for many in range(5):
            for switch in some_switches(many):
                self.same(of_ones(many, ones(switch)), switch)
                self.same(of_ones(many, ones(switch)[::-1]), switch)

    def test_constant(self):
        for many in range(5):
            for worth in (0, 1):
                self.same(constant(many, worth), (many, (worth,) * 2 ** many))

    def test_single(self):
        self.same(single(1, 0), (1, (0, 1)))
        self.same(single(2, 0), (2, (0, 1, 0, 1)))
        self.same(single(2, 1), (2, (0, 0, 1, 1)))
        self.same(single(4, 3), (4, (0,) * 8 + (1,) * 8))
        for many in range(5):
            for name in range(many):
                self.same(single(many, name), (many, tuple(setting[name] for setting in settings_by_words(many))))

    def test_all_switches(self):
        self.same(all_switches(0), [(0, (0,)), (0, (1,))])
        self.same(all_switches(1), [(1, (0, 0)), (1, (0, 1)), (1, (1, 0)), (1, (1, 1))])
        for many in range(4):
            self.same(all_switches(many), switches_by_words(many))
            self.same(all_switches(many), sorted(all_switches(many)))

    def test_numbers_of_names_that_cannot_be(self):
        for many in no_wholes(0, 4):
            self.refused(NoName, of_ones, many, [])
            self.refused(NoName, of_ones, many, [0])
            self.refused(NoName, constant, many, 0)
            self.refused(NoName, constant, many, 1)
            self.refused(NoName, single, many, 0)
        for many in (-1, 5, True, False):
            for asked, handed in ((of_ones, []), (constant, 0), (single, 0)):
                self.refused(NoName, asked, many, handed)

    def test_all_switches_from_0_to_3_alone(self):
        for many in no_wholes(0, 3):
            self.refused(NoName, all_switches, many)
        for many in (-1, 4, 5, True, False):
            self.refused(NoName, all_switches, many)

    def test_of_ones_of_numbers_that_there_are_not(self):
        for many in range(5):
            for number in no_wholes(0, 2 ** many - 1):
                self.refused(NoName, of_ones, many, [number])
                self.refused(NoName, of_ones, many, [0, number])
                self.refused(NoName, of_ones, many, [number, 0])
            for number in (-1, 2 ** many, True, False):
                self.refused(NoName, of_ones, many, [number])

    def test_of_ones_of_what_is_no_list(self):
        for numbers in THINGS:
            if not isinstance(numbers, list):
                self.refused(NoName, of_ones, 2, numbers)

    def test_constant_of_a_worth_that_there_is_not(self):
        for many in range(5):
            for worth in no_wholes(0, 1):
                self.refused(NoName, constant, many, worth)

    def test_single_of_a_name_that_there_is_not(self):
        for many in range(5):
            for name in no_wholes(0, many - 1):
                self.refused(NoName, single, many, name)
            for name in (-1, many, True, False):
                self.refused(NoName, single, many, name)


class WhatHoldsOf0And1(Asking, unittest.TestCase):
    """0.2 (a)"""

    def some(self, many):
        return some_switches(many, {0: 1, 1: 1, 2: 1, 3: 19, 4: 4999}[many])

    def test_of_one_function(self):
        for many in range(5):
            low, high = constant(many, 0), constant(many, 1)
            self.same(turned(low), high)
            for one in some_switches(many):
                self.same(turned(turned(one)), one)
                self.same([both(one, one), either(one, one), unlike(one, one)], [one, one, low])
                self.same([both(one, high), either(one, low), unlike(one, low)], [one, one, one])
                self.same([both(one, low), either(one, high), unlike(one, high)], [low, high, turned(one)])
                self.same([both(one, turned(one)), either(one, turned(one))], [low, high])

    def test_of_two_functions(self):
        for many in range(5):
            for one, other in itertools.product(self.some(many), repeat=2):
                for join in JOINS:
                    self.same(join(one, other), join(other, one))
                self.same(turned(both(one, other)), either(turned(one), turned(other)))
                self.same(turned(either(one, other)), both(turned(one), turned(other)))
                self.same(turned(unlike(one, other)), unlike(turned(one), other))
                self.same(both(one, either(one, other)), one)
                self.same(either(one, both(one, other)), one)
                self.same(unlike(one, other), both(either(one, other), turned(both(one, other))))
                self.same(unlike(unlike(one, other), other), one)

    def test_of_three_functions(self):
        for many in range(5):
            for one, other, third in itertools.product(self.some(many)[:16], repeat=3):
                for join in JOINS:
                    self.same(join(join(one, other), third), join(one, join(other, third)))
                self.same(both(one, either(other, third)), either(both(one, other), both(one, third)))
                self.same(either(one, both(other, third)), both(either(one, other), either(one, third)))
                self.same(both(one, unlike(other, third)), unlike(both(one, other), both(one, third)))


class WhatIsHandedInAndTold(Asking, unittest.TestCase):
    """0.3"""

    def test_told_lists_are_new_ones(self):
        for switch in SOME_SWITCHES:
            self.new_each_time(ones, switch)
        for many in range(4):
            self.new_each_time(all_switches, many)

    def test_handed_in_lists_are_as_they_were(self):
        numbers = [3, 0, 3, 1]
        made = of_ones(2, numbers)
        self.same(numbers, [3, 0, 3, 1])
        numbers.append(2)
        numbers[0] = 2
        self.same(made, (2, (1, 1, 0, 1)))

    def test_refused_lists_are_as_they_were(self):
        numbers = [3, 0, 4]
        self.refused(NoName, of_ones, 2, numbers)
        self.same(numbers, [3, 0, 4])
        self.refused(NoName, worth_at, (2, (0, 1, 1, 0)), [0, [1]])
        self.refused(NoSwitch, turned, [2, [0, 1, 1, 0]])

    def test_refusals_are_switch_errors_and_value_errors(self):
        for asked, handed in ((ones, (None,)), (both, ((0, (0,)), (1, (0, 1)))), (single, (0, 0))):
            with self.assertRaises(ValueError):
                asked(*handed)


if __name__ == "__main__":
    unittest.main()
