"""Stage 8, terms: 8.1, 8.2, 0.2 (h), and 0.3 and 1.2 as far as terms go."""

import itertools
import unittest

from switchkinds.errors import NoName, NoSwitch, NoTerm
from switchkinds.switches import constant, single, turned
from switchkinds.terms import essentials, held_at, is_term, of_terms, primes
from things import (
    NO_SWITCHES, THINGS, Asking, near_things, no_wholes, settings_by_words, some_switches, terms_by_words,
    written_as_term)

SOME_TERMS = [(), (0,), (None,), (1, None), (None, None), (0, 1, None), (None, 1, 1, 0), (None,) * 4]
TERM_THINGS = THINGS + [thing for term in SOME_TERMS for thing in near_things(term)] + [
    (None,) * 5, (0,) * 5, (0, 1, None, 1, 0), [None], [0, 1], [None, None], (None, [None]), ((None,), None), "01",
    "0-", ("0", "1"), (0, "None"), (None, True), (False, None), (2, None), (-1, None)]


def holds(term, setting):
    for name in range(len(term)):
        if term[name] is not None and setting[name] != term[name]:
            return False
    return True


def held_by_words(term):
    return [number for number, setting in enumerate(settings_by_words(len(term))) if holds(term, setting)]


HELD = {term: held_by_words(term) for many in range(5) for term in terms_by_words(many)}


def is_within(term, switch):
    return all(switch[1][number] == 1 for number in HELD[term])


def primes_by_words(switch):
    """Trial of all terms: within the function, and with no 0 or 1 that can be made None."""
    found = []
    for term in terms_by_words(switch[0]):
        if is_within(term, switch):
            wider = [term[:name] + (None,) + term[name + 1:] for name in range(len(term)) if term[name] is not None]
            if not any(is_within(other, switch) for other in wider):
                found.append(term)
    return found


def essentials_by_words(switch):
    found = primes_by_words(switch)
    told = []
    for term in found:
        others = {number for other in found if other != term for number in HELD[other]}
        if any(number not in others for number in HELD[term]):
            told.append(term)
    return told


def each_switch():
    for many in range(5):
        yield from some_switches(many, 31 if many == 4 else None)


class WhatATermIs(Asking, unittest.TestCase):
    """8.1, is_term"""

    def test_all_terms_are_terms_of_their_number_of_names_alone(self):
        for many, other in itertools.product(range(5), repeat=2):
            for term in terms_by_words(many):
                self.assertIs(is_term(other, term), many == other)

    def test_any_thing_is_told_true_or_false(self):
        for many in range(5):
            for thing in TERM_THINGS:
                ahead = repr(thing)
                self.assertIs(is_term(many, thing), written_as_term(many, thing), ahead)
                self.assertEqual(repr(thing), ahead)

    def test_any_thing_as_a_number_of_names(self):
        for many in no_wholes(0, 4):
            for thing in SOME_TERMS + [None, 0, [], (None,) * 5, "term"]:
                self.assertIs(is_term(many, thing), False)

    def test_numbers_of_names_that_cannot_be(self):
        for many, thing in [(-1, ()), (5, (None,) * 5), (5, (0,) * 5), (6, (1,) * 6), (False, ()), (True, (0,)),
                            (None, ()), ("0", ()), ((), ()), ([], [])]:
            self.assertIs(is_term(many, thing), False)

    def test_truths_and_lists_within(self):
        for thing in [(True, None), (False, None), (None, True), (0, False), [0, 1], [None, None], (0, [1]), (0, (1,)),
                      (0, 2), (0, -1), (0, ""), (0, "1"), (0, ()), (0,), (0, 1, None), (0, 10 ** 30)]:
            self.assertIs(is_term(2, thing), False, thing)


class Held(Asking, unittest.TestCase):
    """8.1, held_at"""

    def test_by_hand(self):
        self.same(held_at(()), [0])
        self.same(held_at((0,)), [0])
        self.same(held_at((1,)), [1])
        self.same(held_at((None,)), [0, 1])
        self.same(held_at((1, None)), [1, 3])
        self.same(held_at((None, 1)), [2, 3])
        self.same(held_at((0, 1, None)), [2, 6])
        self.same(held_at((None, None, 0, 1)), [8, 9, 10, 11])
        self.same(held_at((None,) * 4), list(range(16)))

    def test_by_the_words(self):
        for many in range(5):
            for term in terms_by_words(many):
                self.same(held_at(term), held_by_words(term))

    def test_of_no_term(self):
        for thing in TERM_THINGS:
            if not any(written_as_term(many, thing) for many in range(5)):
                self.refused(NoTerm, held_at, thing)
        for thing in ((None,) * 5, (0,) * 5, (1, 0, 1, 0, 1, 0), [], [0], None, 0, True, "", "01", (True,), (False, 0)):
            self.refused(NoTerm, held_at, thing)

    def test_told_lists_are_new_ones(self):
        for term in SOME_TERMS:
            self.new_each_time(held_at, term)


class OfTerms(Asking, unittest.TestCase):
    """8.1, of_terms"""

    def by_words(self, many, terms):
        worths = [1 if any(holds(term, setting) for term in terms) else 0 for setting in settings_by_words(many)]
        return (many, tuple(worths))

    def test_by_hand(self):
        self.same(of_terms(0, []), (0, (0,)))
        self.same(of_terms(0, [()]), (0, (1,)))
        self.same(of_terms(0, ((), ())), (0, (1,)))
        self.same(of_terms(2, [(1, None), (None, 1)]), (2, (0, 1, 1, 1)))
        self.same(of_terms(2, ((0, 1), (1, 0))), (2, (0, 1, 1, 0)))
        self.same(of_terms(2, [(None, None)]), (2, (1, 1, 1, 1)))

    def test_no_terms_at_all(self):
        for many in range(5):
            self.same(of_terms(many, []), constant(many, 0))
            self.same(of_terms(many, ()), constant(many, 0))

    def test_all_parts_none(self):
        for many in range(5):
            self.same(of_terms(many, [(None,) * many]), constant(many, 1))

    def test_single_terms(self):
        for many in range(5):
            for term in terms_by_words(many):
                self.same(of_terms(many, [term]), self.by_words(many, [term]))
                self.same(of_terms(many, (term, term, term)), self.by_words(many, [term]))

    def test_lists_and_tuples_by_the_words(self):
        for many in range(3):
            for count in (2, 3):
                for terms in itertools.product(terms_by_words(many), repeat=count):
                    self.same(of_terms(many, terms), self.by_words(many, terms))
        for many in (3, 4):
            all_of_them = terms_by_words(many)
            for step, start in itertools.product((5, 7, 11, 29), range(7)):
                terms = all_of_them[start::step]
                self.same(of_terms(many, terms), self.by_words(many, terms))
                self.same(of_terms(many, tuple(reversed(terms))), self.by_words(many, terms))

    def test_of_no_number_of_names(self):
        for many in no_wholes(0, 4):
            for terms in ([], (), [()], [(0,)], ((1,),), [(None,) * 5]):
                self.refused(NoName, of_terms, many, terms)

    def test_no_name_ahead_of_no_term(self):
        for many in (-1, 5, True, False, None, "2", [], (2,)):
            for terms in ([None], [0], (0, 1), [[0]], [(2,)], [(), (0,)], ((0, 1, None, 1, 0, 1),)):
                self.refused(NoName, of_terms, many, terms)

    def test_of_no_term_of_so_many_names(self):
        for many in range(5):
            for thing in TERM_THINGS:
                if not written_as_term(many, thing):
                    self.refused(NoTerm, of_terms, many, [thing])
                    self.refused(NoTerm, of_terms, many, ((None,) * many, thing))
                    self.refused(NoTerm, of_terms, many, [thing, (0,) * many])

    def test_terms_of_unlike_numbers_of_names(self):
        for one, other in itertools.permutations(range(5), 2):
            self.refused(NoTerm, of_terms, one, [(None,) * one, (None,) * other])

    def test_what_is_neither_a_list_nor_a_tuple(self):
        for thing in (None, 0, 1, True, "", "0"):
            self.refused(NoTerm, of_terms, 2, thing)

    def test_the_list_is_as_it_was(self):
        terms = [(1, None), (0, 1), (1, None)]
        of_terms(2, terms)
        self.same(terms, [(1, None), (0, 1), (1, None)])


class Primes(Asking, unittest.TestCase):
    """8.2, primes, and 0.2 (h)"""

    def test_by_hand(self):
        self.same(primes((0, (0,))), [])
        self.same(primes((0, (1,))), [()])
        self.same(primes((1, (0, 1))), [(1,)])
        self.same(primes((1, (1, 1))), [(None,)])
        self.same(primes((2, (0, 1, 1, 1))), [(1, None), (None, 1)])
        self.same(primes((2, (0, 1, 1, 0))), [(0, 1), (1, 0)])
        self.same(primes((2, (1, 1, 0, 1))), [(1, None), (None, 0)])
        self.same(primes((3, (0, 0, 0, 1, 0, 1, 1, 1))), [(1, 1, None), (1, None, 1), (None, 1, 1)])
        # As name 1 if name 0 is 1, else as name 2: the term of both is there too.
        self.same(primes((3, (0, 0, 0, 1, 1, 0, 1, 1))), [(0, None, 1), (1, 1, None), (None, 1, 1)])

    def test_constants_and_single_names(self):
        for many in range(5):
            self.same(primes(constant(many, 0)), [])
            self.same(primes(constant(many, 1)), [(None,) * many])
            for name in range(many):
                self.same(primes(single(many, name)), [(None,) * name + (1,) + (None,) * (many - name - 1)])
                self.same(primes(turned(single(many, name))), [(None,) * name + (0,) + (None,) * (many - name - 1)])

    def test_by_trial_of_all_terms(self):
        for switch in each_switch():
            self.same(primes(switch), primes_by_words(switch))

    def test_one_or_more_hold_just_where_the_function_is_1(self):
        for switch in each_switch():
            self.same(of_terms(switch[0], primes(switch)), switch)

    def test_of_no_function(self):
        for thing in NO_SWITCHES:
            self.refused(NoSwitch, primes, thing)
            self.refused(NoSwitch, essentials, thing)


class Essentials(Asking, unittest.TestCase):
    """8.2, essentials"""

    def test_by_hand(self):
        self.same(essentials((0, (0,))), [])
        self.same(essentials((0, (1,))), [()])
        self.same(essentials((2, (0, 1, 1, 1))), [(1, None), (None, 1)])
        self.same(essentials((3, (0, 0, 0, 1, 1, 0, 1, 1))), [(0, None, 1), (1, 1, None)])
        # All but two settings that lie across: each setting has two primes, so none is alone anywhere.
        self.same(essentials((3, (0, 1, 1, 1, 1, 1, 1, 0))), [])

    def test_by_the_words(self):
        for switch in each_switch():
            self.same(essentials(switch), essentials_by_words(switch))

    def test_all_are_primes_in_their_order(self):
        for switch in each_switch():
            told = essentials(switch)
            self.same([term for term in primes(switch) if term in told], told)


class WhatIsToldAndHandedIn(Asking, unittest.TestCase):
    """0.3"""

    def test_told_lists_are_new_ones(self):
        for many in range(5):
            for switch in some_switches(many, {3: 23, 4: 4999}.get(many)):
                self.new_each_time(primes, switch)
                self.new_each_time(essentials, switch)

    def test_told_terms_are_tuples(self):
        for switch in each_switch():
            for term in primes(switch):
                self.assertTrue(written_as_term(switch[0], term))


if __name__ == "__main__":
    unittest.main()
