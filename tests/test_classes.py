"""Stage 6, classes: 6.1 to 6.4, 0.2 (f), and 0.3 and 1.2 as far as classes go."""

import itertools
import unittest

from switchkinds.classes import classes, is_enough, made_of, missing, put_in, rising_above
from switchkinds.errors import NoName, NoSwitch
from switchkinds.moves import moved
from switchkinds.switches import constant, either, single, turned
from things import (
    NO_SWITCHES, SOME_SWITCHES, THINGS, Asking, no_wholes, settings_by_words, some_switches, switches_by_words,
    worth_by_words)

WORDS = ["keeps 0", "keeps 1", "turned", "rising", "sum"]
AND, OR, NOT, XOR = (2, (0, 0, 0, 1)), (2, (0, 1, 1, 1)), (1, (1, 0)), (2, (0, 1, 1, 0))
NAND, LESS = (2, (1, 1, 1, 0)), (2, (0, 0, 1, 0))
MAJORITY = (3, (0, 0, 0, 1, 0, 1, 1, 1))
LOW, HIGH = (0, (0,)), (0, (1,))
FEW_NAMES = [switch for many in range(3) for switch in switches_by_words(many)]


def below(one, other):
    """Whether the other setting is the one with perhaps names 1 that were 0."""
    return all(here <= there for here, there in zip(one, other))


def is_rising_by_words(switch):
    settings = settings_by_words(switch[0])
    return all(worth_by_words(switch, one) <= worth_by_words(switch, other)
               for one, other in itertools.product(settings, repeat=2) if below(one, other))


def is_turned_by_words(switch):
    return all(worth_by_words(switch, setting) != worth_by_words(switch, tuple(1 - part for part in setting))
               for setting in settings_by_words(switch[0]))


def is_sum_by_words(switch):
    settings = settings_by_words(switch[0])
    for names in settings:
        odd = [sum(here * there for here, there in zip(names, setting)) % 2 for setting in settings]
        if list(switch[1]) in (odd, [1 - part for part in odd]):
            return True
    return False


def classes_by_words(switch):
    answers = [worth_by_words(switch, (0,) * switch[0]) == 0, worth_by_words(switch, (1,) * switch[0]) == 1,
               is_turned_by_words(switch), is_rising_by_words(switch), is_sum_by_words(switch)]
    return [word for word, answer in zip(WORDS, answers) if answer]


def put_in_by_words(switch, others):
    many = others[0][0]
    return (many, tuple(worth_by_words(switch, [worth_by_words(other, setting) for other in others])
                        for setting in settings_by_words(many)))


def made_by_words(some, many):
    """Names, and functions of no names, and whatever comes of them, until nothing more does."""
    made = {(many, tuple(setting[name] for setting in settings_by_words(many))) for name in range(many)}
    made |= {(many, switch[1] * 2 ** many) for switch in some if switch[0] == 0}
    while True:
        more = {put_in_by_words(switch, others) for switch in some if switch[0] > 0
                for others in itertools.product(sorted(made), repeat=switch[0])}
        if more <= made:
            return sorted(made)
        made |= more


RISING = [[switch for switch in switches_by_words(many) if is_rising_by_words(switch)] for many in range(4)]
# Of 4 names, a rising function is put together of two such halves by the last name, the low one nowhere more.
RISING.append([(4, low[1] + high[1]) for low, high in itertools.product(RISING[3], repeat=2)
               if all(here <= there for here, there in zip(low[1], high[1]))])


def each_switch():
    for many in range(5):
        yield from some_switches(many)
    yield from RISING[4]
    for names in settings_by_words(4):
        odd = tuple(sum(here * there for here, there in zip(names, setting)) % 2 for setting in settings_by_words(4))
        yield from [(4, odd), turned((4, odd))]
    for switch in switches_by_words(3)[::5]:
        # The other half the other way round and turned: of the class `turned`.
        yield (4, switch[1] + turned(switch)[1][::-1])


class Classes(Asking, unittest.TestCase):
    """6.1"""

    def test_by_hand(self):
        self.same(classes(AND), ["keeps 0", "keeps 1", "rising"])
        self.same(classes(OR), ["keeps 0", "keeps 1", "rising"])
        self.same(classes(NOT), ["turned", "sum"])
        self.same(classes(XOR), ["keeps 0", "sum"])
        self.same(classes(NAND), [])
        self.same(classes(LESS), ["keeps 0"])
        self.same(classes(turned(LESS)), ["keeps 1"])
        self.same(classes(MAJORITY), ["keeps 0", "keeps 1", "turned", "rising"])
        self.same(classes(single(4, 2)), WORDS)
        self.same(classes(turned(MAJORITY)), ["turned"])

    def test_of_no_names(self):
        self.same(classes(LOW), ["keeps 0", "rising", "sum"])
        self.same(classes(HIGH), ["keeps 1", "rising", "sum"])

    def test_of_constants(self):
        for many in range(5):
            self.same(classes(constant(many, 0)), ["keeps 0", "rising", "sum"])
            self.same(classes(constant(many, 1)), ["keeps 1", "rising", "sum"])

    def test_by_the_words(self):
        for switch in each_switch():
            self.same(classes(switch), classes_by_words(switch))

    def test_classes_are_kept(self):
        for switch in switches_by_words(2):
            for others in itertools.product(switches_by_words(2), repeat=2):
                made = classes(put_in(switch, list(others)))
                for word in missing([switch] + list(others)):
                    self.assertIn(word, made)


class PutIn(Asking, unittest.TestCase):
    """6.2, functions in the place of names"""

    def test_by_hand(self):
        self.same(put_in(NOT, [AND]), NAND)
        self.same(put_in(LESS, [(1, (0, 1)), (1, (1, 1))]), (1, (1, 0)))
        self.same(put_in(LESS, [(1, (1, 1)), (1, (0, 1))]), (1, (0, 0)))
        self.same(put_in(AND, [(1, (0, 1)), (1, (1, 0))]), (1, (0, 0)))
        self.same(put_in(OR, [LOW, HIGH]), HIGH)
        self.same(put_in((1, (1, 1)), [LOW]), HIGH)
        self.same(put_in(MAJORITY, [single(4, 3), single(4, 0), constant(4, 1)]), either(single(4, 3), single(4, 0)))
        self.same(put_in((3, (0, 1, 0, 0, 0, 0, 0, 0)), [single(3, 2), single(3, 0), single(3, 1)]),
                  (3, (0, 0, 0, 0, 1, 0, 0, 0)))

    def test_by_the_words(self):
        for many, inner in itertools.product(range(1, 5), range(5)):
            outer = some_switches(many, {1: 1, 2: 1, 3: 23, 4: 9973}[many])
            inners = some_switches(inner, {0: 1, 1: 1, 2: 3, 3: 59, 4: 16001}[inner])
            for switch in outer:
                for others in list(itertools.product(inners, repeat=many))[::{1: 1, 2: 3, 3: 31, 4: 173}[many]]:
                    self.same(put_in(switch, list(others)), put_in_by_words(switch, others))

    def test_names_in_their_own_places(self):
        for switch in each_switch():
            if switch[0] > 0:
                names = [single(switch[0], name) for name in range(switch[0])]
                self.same(put_in(switch, names), switch)

    def test_names_in_other_places_are_a_move(self):
        for many in range(1, 5):
            for order in itertools.permutations(range(many)):
                for switch in some_switches(many, {3: 17, 4: 9973}.get(many)):
                    self.same(put_in(switch, [single(many, name) for name in order]),
                              moved(switch, (order, (0,) * many, 0)))

    def test_none_at_all(self):
        for switch in SOME_SWITCHES:
            self.refused(NoName, put_in, switch, [])

    def test_functions_of_no_names_take_none(self):
        for switch, count in itertools.product((LOW, HIGH), range(4)):
            for other in SOME_SWITCHES:
                self.refused(NoName, put_in, switch, [other] * count)

    def test_too_few_and_too_many(self):
        for switch, other in itertools.product(SOME_SWITCHES, repeat=2):
            for count in range(7):
                if count != switch[0]:
                    self.refused(NoName, put_in, switch, [other] * count)

    def test_unlike_numbers_of_names(self):
        for one, other in itertools.product(SOME_SWITCHES, repeat=2):
            if one[0] != other[0]:
                self.refused(NoName, put_in, AND, [one, other])
                self.refused(NoName, put_in, MAJORITY, [one, one, other])
                self.refused(NoName, put_in, MAJORITY, [one, other, one])
                self.refused(NoName, put_in, MAJORITY, [other, one, one])
                self.refused(NoName, put_in, AND, [one, other, one])

    def test_what_is_no_function(self):
        for thing in NO_SWITCHES:
            for others in ([], [AND], [AND, AND], [AND, NOT], [thing]):
                self.refused(NoSwitch, put_in, thing, others)
            self.refused(NoSwitch, put_in, NOT, [thing])
            self.refused(NoSwitch, put_in, AND, [NOT, thing])
            self.refused(NoSwitch, put_in, AND, [thing, NOT])

    def test_no_switch_ahead_of_no_name(self):
        for thing in NO_SWITCHES:
            for others in ([thing], [NOT, thing, NOT], [AND, NOT, thing], [thing, AND, NOT], [NOT, NOT, thing]):
                self.refused(NoSwitch, put_in, AND, others)
            self.refused(NoSwitch, put_in, LOW, [thing])


class Missing(Asking, unittest.TestCase):
    """6.2, what is enough"""

    def test_by_hand(self):
        self.same(missing([AND, OR]), ["keeps 0", "keeps 1", "rising"])
        self.same(missing([AND, NOT]), [])
        self.same(missing([XOR, NOT]), ["sum"])
        self.same(missing([MAJORITY, NOT]), ["turned"])
        self.same(missing([AND, XOR]), ["keeps 0"])
        self.same(missing([AND, XOR, HIGH]), [])
        self.same(missing([LESS, HIGH]), [])
        self.same(missing([NAND]), [])
        self.same(missing([single(4, 2), single(1, 0)]), WORDS)
        self.assertIs(is_enough([NAND]), True)
        self.assertIs(is_enough([AND, OR, LOW, HIGH]), False)

    def test_of_an_empty_list(self):
        self.same(missing([]), WORDS)
        self.assertIs(is_enough([]), False)

    def test_of_functions_of_no_names(self):
        self.same(missing([LOW]), ["keeps 0", "rising", "sum"])
        self.same(missing([LOW, HIGH]), ["rising", "sum"])
        self.assertIs(is_enough([LOW, HIGH]), False)
        self.assertIs(is_enough([LOW, turned(LESS)]), True)

    def test_by_the_words(self):
        some = FEW_NAMES[::3] + some_switches(3, 61) + some_switches(4, 30011) + [MAJORITY]
        for count in range(4):
            for picked in itertools.combinations(some, count):
                told = [classes_by_words(switch) for switch in picked]
                wanted = [word for word in WORDS if all(word in words for words in told)]
                self.same(missing(list(picked)), wanted)
                self.assertIs(is_enough(list(picked)), wanted == [])

    def test_what_is_no_function(self):
        for thing in NO_SWITCHES:
            for asked in (missing, is_enough):
                self.refused(NoSwitch, asked, [thing])
                self.refused(NoSwitch, asked, [NAND, thing])
                self.refused(NoSwitch, asked, [thing, NAND, AND])


class RisingAbove(Asking, unittest.TestCase):
    """6.3"""

    def test_by_hand(self):
        self.same(rising_above(LESS), (2, (0, 0, 1, 1)))
        self.same(rising_above(XOR), OR)
        self.same(rising_above(NOT), (1, (1, 1)))
        self.same(rising_above(MAJORITY), MAJORITY)
        self.same(rising_above((3, (0, 1, 0, 0, 0, 0, 1, 0))), (3, (0, 1, 0, 1, 0, 1, 1, 1)))
        self.same(rising_above(LOW), LOW)
        self.same(rising_above(HIGH), HIGH)
        self.same(rising_above(constant(4, 0)), constant(4, 0))

    def test_by_the_words(self):
        self.assertEqual([len(found) for found in RISING], [2, 3, 6, 20, 168])
        for switch in each_switch():
            above = [other for other in RISING[switch[0]]
                     if all(here <= there for here, there in zip(switch[1], other[1]))]
            self.same(rising_above(switch), min(above, key=lambda other: sum(other[1])))

    def test_what_is_no_function(self):
        for thing in NO_SWITCHES:
            self.refused(NoSwitch, rising_above, thing)
            self.refused(NoSwitch, classes, thing)


class MadeOf(Asking, unittest.TestCase):
    """6.4"""

    def test_by_hand(self):
        self.same(made_of([AND], 2), [AND, (2, (0, 0, 1, 1)), (2, (0, 1, 0, 1))])
        self.same(made_of([NOT], 1), [(1, (0, 1)), (1, (1, 0))])
        self.same(made_of([XOR], 1), [(1, (0, 0)), (1, (0, 1))])
        self.same(made_of([NAND], 1), switches_by_words(1))
        self.same(made_of([NAND], 2), switches_by_words(2))
        self.same(made_of([AND, OR], 2), [AND, (2, (0, 0, 1, 1)), (2, (0, 1, 0, 1)), OR])
        # Nothing that is 1 where both names are 0, or that is below neither name.
        self.same(made_of([LESS], 2), [(2, (0, 0, 0, 0)), AND, LESS, (2, (0, 0, 1, 1)), (2, (0, 1, 0, 0)),
                                       (2, (0, 1, 0, 1))])

    def test_of_an_empty_list(self):
        self.same(made_of([], 0), [])
        self.same(made_of([], 1), [(1, (0, 1))])
        self.same(made_of([], 2), [(2, (0, 0, 1, 1)), (2, (0, 1, 0, 1))])

    def test_of_functions_of_no_names(self):
        self.same(made_of([LOW], 0), [LOW])
        self.same(made_of([HIGH, HIGH], 0), [HIGH])
        self.same(made_of([LOW, HIGH], 0), [LOW, HIGH])
        self.same(made_of([HIGH], 1), [(1, (0, 1)), (1, (1, 1))])
        self.same(made_of([LOW], 2), [(2, (0, 0, 0, 0)), (2, (0, 0, 1, 1)), (2, (0, 1, 0, 1))])
        self.same(made_of([NOT, HIGH], 0), [LOW, HIGH])
        self.same(made_of([AND, HIGH], 0), [HIGH])
        self.same(made_of([LESS, HIGH], 2), switches_by_words(2))

    def test_of_no_names_nothing_is_made_without_functions_of_none(self):
        for switch in FEW_NAMES:
            self.same(made_of([switch], 0), [switch] if switch[0] == 0 else [])
        self.same(made_of([NAND, NOT, (1, (1, 1)), (2, (0, 0, 0, 0))], 0), [])

    def test_by_the_words(self):
        for count in range(3):
            for some in itertools.combinations(FEW_NAMES, count):
                for many in range(3):
                    self.same(made_of(list(some), many), made_by_words(some, many))

    def test_longer_lists_by_the_words(self):
        for some in list(itertools.combinations(FEW_NAMES, 3))[::7] + list(itertools.combinations(FEW_NAMES, 4))[::61]:
            for many in range(3):
                self.same(made_of(list(some), many), made_by_words(some, many))

    def test_the_order_of_the_list_and_functions_twice(self):
        for some in list(itertools.combinations(FEW_NAMES, 3))[::11]:
            for many in range(3):
                wanted = made_of(list(some), many)
                self.same(made_of(list(some)[::-1], many), wanted)
                self.same(made_of(list(some) + list(some), many), wanted)

    def test_functions_of_more_names_are_not_refused(self):
        for switch in some_switches(3, 5) + [MAJORITY]:
            for some in ([switch], [switch, LOW], [NOT, switch]):
                for many in range(3):
                    self.same(made_of(some, many), made_by_words(some, many))
        self.same(made_of([(4, (1,) * 15 + (0,))], 2), switches_by_words(2))
        self.same(made_of([(4, (0,) * 15 + (1,))], 2), made_of([AND], 2))

    def test_from_0_to_2_alone(self):
        for many in no_wholes(0, 2) + [-1, 3, 4, 5, True, False]:
            for some in ([], [AND], [LOW, NOT]):
                self.refused(NoName, made_of, some, many)

    def test_no_switch_ahead_of_no_name(self):
        for thing in NO_SWITCHES:
            for many in (0, 2, 3, -1, None, True, "2", thing):
                self.refused(NoSwitch, made_of, [thing], many)
                self.refused(NoSwitch, made_of, [NAND, thing], many)


class WhatIsEnough(Asking, unittest.TestCase):
    """0.2 (f)"""

    def agree(self, some):
        enough = made_of(some, 2) == switches_by_words(2)
        self.assertIs(is_enough(some), enough, some)
        self.assertIs(missing(some) == [], enough, some)

    def test_lists_of_up_to_3_functions(self):
        for count in range(4):
            for some in itertools.combinations(FEW_NAMES, count):
                self.agree(list(some))

    def test_functions_of_3_and_4_names(self):
        for switch in switches_by_words(3) + some_switches(4, 997):
            for more in ([], [LOW], [HIGH], [NOT], [AND]):
                self.agree([switch] + more)


class WhatIsHandedInAndTold(Asking, unittest.TestCase):
    """0.3"""

    def test_told_lists_are_new_ones(self):
        for switch in FEW_NAMES + SOME_SWITCHES:
            self.new_each_time(classes, switch)
            self.new_each_time(missing, [switch])
        self.new_each_time(missing, [])
        for some, many in itertools.product(([], [LOW], [AND], [NAND], [LOW, NOT, XOR]), range(3)):
            self.new_each_time(made_of, some, many)

    def test_handed_in_lists_are_as_they_were(self):
        for some in ([], [LOW], [XOR, AND], [NAND, LOW, NOT, XOR, NAND]):
            ahead = repr(some)
            for many in range(3):
                made_of(some, many)
            missing(some)
            is_enough(some)
            self.assertEqual(repr(some), ahead)
        others = [XOR, AND]
        put_in(LESS, others)
        self.same(others, [XOR, AND])

    def test_what_was_told_stays_when_the_list_is_changed(self):
        some = [AND]
        told = made_of(some, 2)
        some.append(NOT)
        self.same(told, [AND, (2, (0, 0, 1, 1)), (2, (0, 1, 0, 1))])
        self.same(made_of(some, 2), switches_by_words(2))

    def test_what_is_no_list_is_refused(self):
        for thing in THINGS:
            if not isinstance(thing, list):
                for asked in (missing, is_enough):
                    self.refused(NoSwitch, asked, thing)
                self.refused(NoSwitch, put_in, AND, thing)
                self.refused(NoSwitch, made_of, thing, 2)


if __name__ == "__main__":
    unittest.main()
