"""Stage 5, sums: 5.1 to 5.4, 0.2 (e), and 0.3 and 1.2 as far as sums go."""

import itertools
import unittest

from switchkinds.errors import NoSums, NoSwitch
from switchkinds.moves import moved
from switchkinds.sums import by_weights, how_far, is_flattest, is_sum, nearest, of_sums, sums
from switchkinds.switches import both, constant, single, turned, unlike
from things import (
    NO_SWITCHES, THINGS, Asking, near_things, number_by_words, settings_by_words, some_moves, some_switches,
    switches_by_words)

OF_ONE = [sums, by_weights, how_far, is_sum, nearest, is_flattest]


def common(one, other):
    return len([name for name in range(len(one)) if one[name] == 1 and other[name] == 1])


def sums_by_words(switch):
    settings = settings_by_words(switch[0])
    told = []
    for this in settings:
        total = 0
        for setting, worth in zip(settings, switch[1]):
            part = 1 if worth == 0 else -1
            total += -part if common(setting, this) % 2 == 1 else part
        told.append(total)
    return tuple(told)


def sums_of_names(many):
    """All sums of names: by the number of their names as a setting, that which is not turned first."""
    found = []
    for names in settings_by_words(many):
        worths = tuple(common(setting, names) % 2 for setting in settings_by_words(many))
        found += [(many, worths), (many, tuple(1 - worth for worth in worths))]
    return found


SUMS_OF_NAMES = [sums_of_names(many) for many in range(5)]


def distance(one, other):
    return len([place for place in range(len(one[1])) if one[1][place] != other[1][place]])


def nearest_by_words(switch):
    far = [distance(switch, other) for other in SUMS_OF_NAMES[switch[0]]]
    # The first of the least ones: min keeps the order in which they come.
    return min(zip(SUMS_OF_NAMES[switch[0]], far), key=lambda pair: pair[1])


def each_switch():
    for many in range(5):
        yield from some_switches(many)
        yield from sums_of_names(many)


# 1 where just one of two pairs of names is both 1.
FLAT = unlike(both(single(4, 0), single(4, 1)), both(single(4, 2), single(4, 3)))


class Sums(Asking, unittest.TestCase):
    """5.1"""

    def test_by_hand(self):
        self.same(sums((0, (0,))), (1,))
        self.same(sums((0, (1,))), (-1,))
        self.same(sums((1, (0, 0))), (2, 0))
        self.same(sums((1, (0, 1))), (0, 2))
        self.same(sums((1, (1, 0))), (0, -2))
        self.same(sums((1, (1, 1))), (-2, 0))
        self.same(sums((2, (0, 0, 0, 1))), (2, 2, 2, -2))
        self.same(sums((2, (0, 1, 0, 0))), (2, 2, -2, 2))
        self.same(sums((2, (0, 0, 1, 1))), (0, 0, 4, 0))
        self.same(sums((3, (0, 0, 0, 1, 0, 1, 1, 1))), (0, 4, 4, 0, 4, 0, 0, -4))
        self.same(sums(single(4, 3)), (0,) * 8 + (16,) + (0,) * 7)

    def test_by_the_words(self):
        for switch in each_switch():
            self.same(sums(switch), sums_by_words(switch))


class OfSums(Asking, unittest.TestCase):
    """5.2"""

    def test_by_hand(self):
        self.same(of_sums((1,)), (0, (0,)))
        self.same(of_sums((-1,)), (0, (1,)))
        self.same(of_sums((0, 2)), (1, (0, 1)))
        self.same(of_sums((2, 2, 2, -2)), (2, (0, 0, 0, 1)))

    def test_of_no_sums_by_hand(self):
        for thing in [(), (0,), (2,), (-2,), (True,), (False,), [1], [-1], 1, None, "1", (1, 1), (0, 0), (2, 2),
                      (2, -2), (1, 0), (2, 0, 0), (4, 0, 0), (2, 2, 2, 2), (2, 2, -2, -2), (4, 4, 0, 0),
                      (4, False, 0, 0), (False, 2), ((1,),), (2, 2, 2, -2, 0), [2, 2, 2, -2], (10 ** 30,), (10 ** 30, 0),
                      (8, 0, 0, 0), (0, 0, 0, 0), (32,) + (0,) * 31, (64,) + (0,) * 63]:
            self.refused(NoSums, of_sums, thing)

    def test_all_tuples_of_few_names(self):
        told = {sums_by_words(switch): switch for many in range(3) for switch in switches_by_words(many)}
        for length, most in ((1, 9), (2, 6), (3, 3), (4, 5)):
            for numbers in itertools.product(range(-most, most + 1), repeat=length):
                if numbers in told:
                    self.same(of_sums(numbers), told[numbers])
                else:
                    self.refused(NoSums, of_sums, numbers)

    def test_any_thing(self):
        told = {repr(sums_by_words(switch)): switch for many in range(3) for switch in switches_by_words(many)}
        for thing in THINGS:
            if repr(thing) in told:
                self.same(of_sums(thing), told[repr(thing)])
            else:
                self.refused(NoSums, of_sums, thing)

    def test_things_around_sums(self):
        told = {repr(sums_by_words(switch)) for many in range(4) for switch in switches_by_words(many)}
        for many in range(4):
            for switch in some_switches(many, {3: 23}.get(many)):
                for thing in near_things(sums_by_words(switch)):
                    if repr(thing) not in told:
                        self.refused(NoSums, of_sums, thing)

    def test_sums_with_two_numbers_changed(self):
        told = {sums_by_words(switch) for switch in switches_by_words(3)}
        for switch in some_switches(3, 37):
            numbers = sums_by_words(switch)
            for one, other in itertools.combinations(range(8), 2):
                for here, there in itertools.product((-8, -4, -2, -1, 0, 1, 2, 4, 6, 8), repeat=2):
                    thing = list(numbers)
                    thing[one], thing[other] = here, there
                    if tuple(thing) not in told:
                        self.refused(NoSums, of_sums, tuple(thing))

    def test_of_4_names(self):
        for switch in some_switches(4, 4999):
            numbers = sums_by_words(switch)
            self.same(of_sums(numbers), switch)
            self.refused(NoSums, of_sums, list(numbers))
            for place in range(16):
                for wrong in (numbers[place] + 2, -numbers[place] - 2, None, True, False, "0", (0,)):
                    thing = numbers[:place] + (wrong,) + numbers[place + 1:]
                    self.refused(NoSums, of_sums, thing)
            self.refused(NoSums, of_sums, numbers + numbers)


class SumsOfNames(Asking, unittest.TestCase):
    """5.3"""

    def test_by_weights_by_hand(self):
        self.same(by_weights((0, (1,))), [1])
        self.same(by_weights((1, (0, 0))), [4, 0])
        self.same(by_weights((1, (0, 1))), [0, 4])
        self.same(by_weights((2, (0, 0, 0, 1))), [4, 8, 4])
        self.same(by_weights((3, (0, 0, 0, 1, 0, 1, 1, 1))), [0, 48, 0, 16])
        self.same(by_weights(FLAT), [16, 64, 96, 64, 16])

    def test_by_weights_by_the_words(self):
        for switch in each_switch():
            wanted = [0] * (switch[0] + 1)
            for setting, part in zip(settings_by_words(switch[0]), sums_by_words(switch)):
                wanted[sum(setting)] += part ** 2
            self.same(by_weights(switch), wanted)

    def test_how_far_by_hand(self):
        self.same(how_far((0, (1,))), 0)
        self.same(how_far((2, (0, 0, 0, 1))), 1)
        self.same(how_far((2, (1, 0, 0, 1))), 0)
        self.same(how_far((3, (0, 0, 0, 1, 0, 1, 1, 1))), 2)
        self.same(how_far(FLAT), 6)

    def test_how_far_by_the_words(self):
        for switch in each_switch():
            self.same(how_far(switch), min(distance(switch, other) for other in SUMS_OF_NAMES[switch[0]]))

    def test_is_sum_by_the_words(self):
        for switch in each_switch():
            self.assertIs(is_sum(switch), switch in SUMS_OF_NAMES[switch[0]])

    def test_is_sum_of_constants_and_names(self):
        for many in range(5):
            for worth in (0, 1):
                self.assertIs(is_sum(constant(many, worth)), True)
            for name in range(many):
                self.assertIs(is_sum(single(many, name)), True)
                self.assertIs(is_sum(turned(single(many, name))), True)
        self.assertEqual(len([switch for switch in switches_by_words(3) if is_sum(switch)]), 16)


class Nearest(Asking, unittest.TestCase):
    """5.4"""

    def test_by_hand(self):
        self.same(nearest((0, (0,))), ((0, (0,)), 0))
        self.same(nearest((0, (1,))), ((0, (1,)), 0))
        self.same(nearest((2, (0, 0, 0, 1))), ((2, (0, 0, 0, 0)), 1))
        self.same(nearest((2, (1, 1, 1, 0))), ((2, (1, 1, 1, 1)), 1))
        self.same(nearest((2, (1, 0, 0, 1))), ((2, (1, 0, 0, 1)), 0))
        self.same(nearest((3, (0, 0, 0, 1, 0, 1, 1, 1))), ((3, (0, 1, 0, 1, 0, 1, 0, 1)), 2))
        self.same(nearest((3, (1, 1, 1, 0, 1, 0, 0, 0))), ((3, (1, 0, 1, 0, 1, 0, 1, 0)), 2))
        self.same(nearest(FLAT), (constant(4, 0), 6))

    def test_by_the_words(self):
        for switch in each_switch():
            self.same(nearest(switch), nearest_by_words(switch))

    def test_is_flattest_by_hand(self):
        self.assertIs(is_flattest((0, (0,))), True)
        self.assertIs(is_flattest((0, (1,))), True)
        self.assertIs(is_flattest((2, (0, 0, 0, 1))), True)
        self.assertIs(is_flattest((2, (0, 1, 1, 0))), False)
        self.assertIs(is_flattest(FLAT), True)
        self.assertIs(is_flattest(turned(FLAT)), True)
        self.assertEqual([len([switch for switch in switches_by_words(many) if is_flattest(switch)])
                          for many in range(4)], [2, 0, 8, 0])

    def test_is_flattest_by_the_words(self):
        flat = [moved(FLAT, move) for move in some_moves(4)]
        for switch in itertools.chain(each_switch(), flat):
            sizes = {abs(part) for part in sums_by_words(switch)}
            self.assertIs(is_flattest(switch), len(sizes) == 1)


class WhatHoldsOfSums(Asking, unittest.TestCase):
    """0.2 (e)"""

    def test_sums_lead_back(self):
        for switch in each_switch():
            self.same(of_sums(sums(switch)), switch)

    def test_all_squares_together(self):
        for switch in each_switch():
            self.assertEqual(sum(part * part for part in sums(switch)), len(switch[1]) ** 2)
            self.assertEqual(sum(by_weights(switch)), len(switch[1]) ** 2)

    def test_a_move_leads_sums_as_it_leads_settings(self):
        for many in range(5):
            settings = settings_by_words(many)
            for switch in some_switches(many, {3: 7, 4: 9973}.get(many)):
                ahead = sums(switch)
                for order, turns, whole in some_moves(many):
                    wanted = []
                    for setting in settings:
                        looked_up = tuple(setting[name] for name in order)
                        part = ahead[number_by_words(looked_up)]
                        # Each turned name of the setting turns the sign, and so does the whole.
                        wanted.append(-part if (common(looked_up, turns) + whole) % 2 == 1 else part)
                    self.same(sums(moved(switch, (order, turns, whole))), tuple(wanted))

    def test_kin_are_as_far_and_as_flat(self):
        for many in range(5):
            for switch in some_switches(many, {3: 7, 4: 9973}.get(many)):
                for move in some_moves(many):
                    led = moved(switch, move)
                    self.same([how_far(led), is_sum(led), is_flattest(led), by_weights(led)],
                              [how_far(switch), is_sum(switch), is_flattest(switch), by_weights(switch)])


class WhatSumsRefuseAndTell(Asking, unittest.TestCase):
    """1.2 and 0.3"""

    def test_what_is_no_function(self):
        for thing in NO_SWITCHES:
            for asked in OF_ONE:
                self.refused(NoSwitch, asked, thing)

    def test_told_lists_are_new_ones(self):
        for many in range(5):
            for switch in some_switches(many, {3: 11, 4: 4999}.get(many)):
                self.new_each_time(by_weights, switch)

    def test_refused_lists_are_as_they_were(self):
        self.refused(NoSums, of_sums, [2, 2, 2, -2])
        self.refused(NoSums, of_sums, ([2], [0]))


if __name__ == "__main__":
    unittest.main()
