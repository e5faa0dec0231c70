"""Stage 4, names: 4.1 to 4.4, 0.2 (d), and 0.3 and 1.2 as far as names go."""

import itertools
import unittest

from switchkinds.errors import NoName, NoSwitch, Unlike
from switchkinds.hanging import (
    alike_names, by_count, exchanged, how_much, marks, needed, put_together, reduced, with_set)
from switchkinds.moves import moved
from switchkinds.switches import constant, either, single, turned, unlike
from things import (
    NO_SWITCHES, SOME_SWITCHES, THINGS, Asking, moves_by_words, no_wholes, settings_by_words,
    some_moves, some_switches, switches_by_words, worth_by_words)

MAJORITY = (3, (0, 0, 0, 1, 0, 1, 1, 1))
# As name 0 is where name 2 is 0, as name 1 is where it is 1.
CHOICE = (3, (0, 1, 0, 1, 0, 0, 1, 1))


def changed(setting, name, part):
    return setting[:name] + (part,) + setting[name + 1:]


def how_much_by_words(switch, name):
    count = 0
    for setting in settings_by_words(switch[0]):
        other = changed(setting, name, 1 if setting[name] == 0 else 0)
        if worth_by_words(switch, setting) != worth_by_words(switch, other):
            count += 1
    return count


def by_settings(many, told):
    """The function with the worths that are told of each setting."""
    return (many, tuple(told(setting) for setting in settings_by_words(many)))


def exchanged_by_words(switch, one, other):
    def at(setting):
        return worth_by_words(switch, changed(changed(setting, one, setting[other]), other, setting[one]))
    return by_settings(switch[0], at)


def each_switch():
    """Functions of 0 to 4 names: all of up to 3, many of 4, and of 4 also some that don't hang on all."""
    for many in range(5):
        yield from some_switches(many)
    for many in range(4):
        for low in some_switches(many, {3: 17}.get(many)):
            for name in range(many + 1):
                yield put_together(low, low, name)


class OnWhichNames(Asking, unittest.TestCase):
    """4.1"""

    def test_by_hand(self):
        self.same([how_much(MAJORITY, name) for name in range(3)], [4, 4, 4])
        self.same([how_much(CHOICE, name) for name in range(3)], [4, 4, 4])
        self.same([how_much((2, (0, 0, 0, 1)), name) for name in range(2)], [2, 2])
        self.same([how_much((2, (0, 1, 0, 1)), name) for name in range(2)], [4, 0])
        self.same(how_much((1, (0, 1)), 0), 2)
        self.same([how_much((3, (0, 0, 0, 0, 0, 1, 0, 0)), name) for name in range(3)], [2, 2, 2])
        self.same([how_much((3, (0, 1, 0, 0, 1, 1, 1, 1)), name) for name in range(3)], [2, 2, 6])
        self.same(needed((2, (0, 1, 0, 1))), [0])
        self.same(needed((2, (0, 0, 1, 1))), [1])
        self.same(needed((3, (0, 1, 0, 1, 1, 0, 1, 0))), [0, 2])
        self.same(needed((0, (1,))), [])
        self.same(needed((4, (1,) * 16)), [])
        self.same(needed(unlike(single(4, 3), single(4, 1))), [1, 3])

    def test_by_the_words(self):
        for switch in each_switch():
            wanted = [how_much_by_words(switch, name) for name in range(switch[0])]
            self.same([how_much(switch, name) for name in range(switch[0])], wanted)
            self.same(needed(switch), [name for name, much in enumerate(wanted) if much > 0])


class SettingNames(Asking, unittest.TestCase):
    """4.2"""

    def test_by_hand(self):
        self.same(with_set(MAJORITY, 0, 0), (2, (0, 0, 0, 1)))
        self.same(with_set(MAJORITY, 2, 1), (2, (0, 1, 1, 1)))
        self.same(with_set((2, (0, 1, 0, 0)), 0, 1), (1, (1, 0)))
        self.same(with_set((2, (0, 1, 0, 0)), 1, 0), (1, (0, 1)))
        self.same(with_set((1, (0, 1)), 0, 1), (0, (1,)))
        self.same(put_together((2, (0, 0, 0, 1)), (2, (0, 1, 1, 1)), 0), MAJORITY)
        self.same(put_together((1, (0, 1)), (1, (1, 1)), 0), (2, (0, 1, 1, 1)))
        self.same(put_together((1, (0, 0)), (1, (0, 1)), 1), (2, (0, 0, 0, 1)))
        self.same(put_together((1, (0, 1)), (1, (0, 0)), 0), (2, (0, 0, 1, 0)))
        self.same(put_together((1, (0, 1)), (1, (0, 0)), 1), (2, (0, 1, 0, 0)))
        self.same(put_together((0, (0,)), (0, (1,)), 0), (1, (0, 1)))

    def test_with_set_by_the_words(self):
        for switch in each_switch():
            for name, part in itertools.product(range(switch[0]), (0, 1)):
                wanted = by_settings(switch[0] - 1, lambda setting: worth_by_words(
                    switch, setting[:name] + (part,) + setting[name:]))
                self.same(with_set(switch, name, part), wanted)

    def test_put_together_by_the_words(self):
        for many in range(4):
            some = some_switches(many, {3: 19}.get(many))
            for low, high in itertools.product(some, repeat=2):
                for name in range(many + 1):
                    wanted = by_settings(many + 1, lambda setting: worth_by_words(
                        (low, high)[setting[name]], setting[:name] + setting[name + 1:]))
                    self.same(put_together(low, high, name), wanted)

    def test_with_set_of_a_name_that_there_is_not(self):
        for switch in SOME_SWITCHES:
            for name in no_wholes(0, switch[0] - 1) + [-1, switch[0], True, False]:
                for part in (0, 1, None):
                    self.refused(NoName, with_set, switch, name, part)

    def test_with_set_of_what_is_neither_0_nor_1(self):
        for switch in SOME_SWITCHES[2:]:
            for part in no_wholes(0, 1) + [-1, 2, True, False]:
                self.refused(NoName, with_set, switch, 0, part)
                self.refused(NoName, with_set, switch, switch[0] - 1, part)

    def test_put_together_by_a_name_that_there_is_not(self):
        for switch in SOME_SWITCHES[:5]:
            for name in no_wholes(0, switch[0]) + [-1, switch[0] + 1, True, False]:
                self.refused(NoName, put_together, switch, turned(switch), name)

    def test_put_together_of_4_names(self):
        for low, high in itertools.product(some_switches(4, 9973), repeat=2):
            for name in (0, 1, 4, 5, -1, None, True):
                self.refused(NoName, put_together, low, high, name)

    def test_unlike_ahead_of_no_name(self):
        for low, high in itertools.product(SOME_SWITCHES, repeat=2):
            if low[0] != high[0]:
                for name in (0, 1, 3, 5, -1, None, True, "name"):
                    self.refused(Unlike, put_together, low, high, name)


class TwoHalves(Asking, unittest.TestCase):
    """0.2 (d)"""

    def test_a_function_is_put_together_of_its_halves(self):
        for switch in each_switch():
            for name in range(switch[0]):
                self.same(put_together(with_set(switch, name, 0), with_set(switch, name, 1), name), switch)

    def test_halves_come_back(self):
        for many in range(4):
            some = some_switches(many, {3: 19}.get(many))
            for low, high in itertools.product(some, repeat=2):
                for name in range(many + 1):
                    whole = put_together(low, high, name)
                    self.same([with_set(whole, name, 0), with_set(whole, name, 1)], [low, high])

    def test_two_halves_make_all_functions(self):
        for many in range(1, 4):
            told = {put_together(low, high, 0) for low in switches_by_words(many - 1)
                    for high in switches_by_words(many - 1)}
            self.same(sorted(told), switches_by_words(many))

    def test_halves_are_alike_just_if_the_name_is_not_needed(self):
        for switch in each_switch():
            for name in range(switch[0]):
                alike = with_set(switch, name, 0) == with_set(switch, name, 1)
                self.assertIs(name in needed(switch), not alike)


class NamesLeftOutAndExchanged(Asking, unittest.TestCase):
    """4.3"""

    def test_reduced_by_hand(self):
        self.same(reduced((2, (0, 1, 0, 1))), (1, (0, 1)))
        self.same(reduced((2, (1, 1, 0, 0))), (1, (1, 0)))
        self.same(reduced((3, (0, 0, 1, 1, 0, 0, 0, 0))), (2, (0, 1, 0, 0)))
        self.same(reduced((3, (0, 1, 0, 1, 0, 0, 0, 0))), (2, (0, 1, 0, 0)))
        self.same(reduced(constant(4, 1)), (0, (1,)))
        self.same(reduced(constant(4, 0)), (0, (0,)))
        self.same(reduced((0, (1,))), (0, (1,)))
        self.same(reduced(MAJORITY), MAJORITY)

    def test_reduced_by_the_words(self):
        for switch in each_switch():
            names = [name for name in range(switch[0]) if how_much_by_words(switch, name) > 0]
            told = reduced(switch)
            self.assertEqual(told[0], len(names))
            for setting in settings_by_words(switch[0]):
                picked = tuple(setting[name] for name in names)
                self.assertEqual(worth_by_words(told, picked), worth_by_words(switch, setting))
            self.same(needed(told), list(range(len(names))))
            self.same(reduced(told), told)

    def test_exchanged_by_hand(self):
        self.same(exchanged((2, (0, 1, 0, 0)), 0, 1), (2, (0, 0, 1, 0)))
        self.same(exchanged((2, (0, 1, 0, 0)), 1, 0), (2, (0, 0, 1, 0)))
        self.same(exchanged((2, (0, 1, 0, 0)), 1, 1), (2, (0, 1, 0, 0)))
        self.same(exchanged(single(4, 3), 3, 1), single(4, 1))
        self.same(exchanged(single(4, 3), 0, 1), single(4, 3))
        self.same(exchanged((3, (0, 1, 0, 1, 0, 0, 1, 1)), 0, 2), (3, (0, 0, 0, 1, 1, 0, 1, 1)))

    def test_exchanged_by_the_words(self):
        for switch in each_switch():
            for one, other in itertools.product(range(switch[0]), repeat=2):
                told = exchanged(switch, one, other)
                self.same(told, exchanged_by_words(switch, one, other))
                self.same(exchanged(told, other, one), switch)

    def test_exchanged_of_names_that_there_are_not(self):
        for switch in SOME_SWITCHES:
            for name in no_wholes(0, switch[0] - 1) + [-1, switch[0], True, False]:
                self.refused(NoName, exchanged, switch, name, 0)
                self.refused(NoName, exchanged, switch, 0, name)
                self.refused(NoName, exchanged, switch, name, name)

    def test_alike_names_by_hand(self):
        self.same(alike_names(MAJORITY), [[0, 1, 2]])
        self.same(alike_names(CHOICE), [[0], [1], [2]])
        self.same(alike_names((2, (0, 1, 0, 0))), [[0], [1]])
        self.same(alike_names(single(4, 1)), [[0, 2, 3], [1]])
        self.same(alike_names(single(3, 0)), [[0], [1, 2]])
        self.same(alike_names(either(single(4, 0), single(4, 2))), [[0, 2], [1, 3]])
        self.same(alike_names((0, (1,))), [])
        self.same(alike_names((1, (0, 1))), [[0]])
        self.same(alike_names(constant(4, 0)), [[0, 1, 2, 3]])

    def test_alike_names_by_the_words(self):
        for switch in each_switch():
            told = alike_names(switch)
            self.same(sorted(told), told)
            self.same(sorted(itertools.chain(*told)), list(range(switch[0])))
            for names in told:
                self.same(sorted(names), names)
            for one, other in itertools.product(range(switch[0]), repeat=2):
                together = any(one in names and other in names for names in told)
                self.assertIs(together, exchanged_by_words(switch, one, other) == switch)

    def test_by_count_by_hand(self):
        self.same(by_count(MAJORITY), [0, 0, 1, 1])
        self.same(by_count((2, (0, 1, 1, 0))), [0, 1, 0])
        self.same(by_count((2, (0, 1, 0, 0))), None)
        self.same(by_count((2, (0, 0, 1, 1))), None)
        self.same(by_count((0, (1,))), [1])
        self.same(by_count((0, (0,))), [0])
        self.same(by_count((1, (1, 0))), [1, 0])
        self.same(by_count(constant(4, 1)), [1, 1, 1, 1, 1])
        self.same(by_count(single(3, 0)), None)

    def test_by_count_of_all_that_hang_on_that_number(self):
        for many in range(5):
            for worths in itertools.product((0, 1), repeat=many + 1):
                self.same(by_count(by_settings(many, lambda setting: worths[sum(setting)])), list(worths))

    def test_by_count_by_the_words(self):
        for switch in each_switch():
            found = {}
            for setting in settings_by_words(switch[0]):
                found.setdefault(sum(setting), set()).add(worth_by_words(switch, setting))
            if all(len(worths) == 1 for worths in found.values()):
                self.same(by_count(switch), [min(found[count]) for count in range(switch[0] + 1)])
            else:
                self.assertIsNone(by_count(switch))

    def test_by_count_just_if_all_names_are_alike(self):
        for switch in each_switch():
            self.assertIs(by_count(switch) is not None, len(alike_names(switch)) <= 1)


class Marks(Asking, unittest.TestCase):
    """4.4"""

    def test_by_hand(self):
        self.same(marks(MAJORITY), (4, (4, 4, 4)))
        self.same(marks((3, (1, 0, 1, 1, 0, 0, 0, 0))), (3, (2, 2, 6)))
        self.same(marks((3, (0, 1, 0, 0, 1, 1, 1, 1))), (3, (2, 2, 6)))
        self.same(marks((2, (0, 1, 0, 1))), (2, (0, 4)))
        self.same(marks((2, (1, 1, 1, 0))), (1, (2, 2)))
        self.same(marks((0, (1,))), (0, ()))
        self.same(marks((0, (0,))), (0, ()))
        self.same(marks((1, (1, 0))), (1, (2,)))

    def test_by_the_words(self):
        for switch in each_switch():
            count = len([worth for worth in switch[1] if worth == 1])
            muches = sorted(how_much_by_words(switch, name) for name in range(switch[0]))
            self.same(marks(switch), (min(count, 2 ** switch[0] - count), tuple(muches)))

    def test_kin_have_the_same(self):
        for many in range(5):
            some = some_switches(many, {3: 5, 4: 9973}.get(many))
            for switch, move in itertools.product(some, some_moves(many)):
                self.same(marks(moved(switch, move)), marks(switch))

    def test_a_move_leads_how_much_as_it_leads_names(self):
        for many in range(4):
            for switch, move in itertools.product(some_switches(many, {3: 11}.get(many)), moves_by_words(many)):
                led = moved(switch, move)
                for place in range(many):
                    self.same(how_much(led, move[0][place]), how_much(switch, place))


class WhatNamesRefuse(Asking, unittest.TestCase):
    """1.2 and 0.3, wrong inputs"""

    def test_what_is_no_function(self):
        for thing in NO_SWITCHES:
            for asked in (needed, reduced, alike_names, by_count, marks):
                self.refused(NoSwitch, asked, thing)
            for name in (0, 5, None, True, thing):
                self.refused(NoSwitch, how_much, thing, name)
                self.refused(NoSwitch, with_set, thing, name, 0)
                self.refused(NoSwitch, with_set, thing, 0, name)
                self.refused(NoSwitch, exchanged, thing, name, 0)
                self.refused(NoSwitch, exchanged, thing, 0, name)
                self.refused(NoSwitch, put_together, thing, (1, (0, 1)), name)
                self.refused(NoSwitch, put_together, (1, (0, 1)), thing, name)
                self.refused(NoSwitch, put_together, thing, thing, name)

    def test_no_switch_ahead_of_too_many_names(self):
        for thing in NO_SWITCHES:
            self.refused(NoSwitch, put_together, thing, constant(4, 0), 0)
            self.refused(NoSwitch, put_together, constant(4, 0), thing, 0)

    def test_how_much_of_a_name_that_there_is_not(self):
        for switch in SOME_SWITCHES:
            for name in no_wholes(0, switch[0] - 1) + [-1, switch[0], True, False]:
                self.refused(NoName, how_much, switch, name)

    def test_any_thing_as_a_name(self):
        for thing in THINGS:
            if repr(thing) not in ("0", "1"):
                self.refused(NoName, how_much, (2, (0, 1, 1, 0)), thing)


class WhatIsTold(Asking, unittest.TestCase):
    """0.3"""

    def test_told_lists_are_new_ones(self):
        for many in range(5):
            for switch in some_switches(many, {3: 11, 4: 4999}.get(many)) + [constant(many, 0)]:
                self.new_each_time(needed, switch)
                self.new_each_time(alike_names, switch)
                if by_count(switch) is not None:
                    self.new_each_time(by_count, switch)

    def test_lists_within_one_list_are_not_one_list(self):
        for switch in (CHOICE, single(4, 1), (2, (0, 1, 0, 0))):
            told = alike_names(switch)
            wanted = [list(names) for names in told]
            told[0].append(9)
            self.same(told[1:], wanted[1:])


if __name__ == "__main__":
    unittest.main()
