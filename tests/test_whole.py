"""What holds over the whole program: 0.2 of texts, terms, products and racks together, 0.3 and 1.2."""

import itertools
import unittest

from switchkinds import classes, hanging, kinds, moves, products, sums, switches, terms, texts
from switchkinds.errors import NoLabel, NoMove, NoName, NoSwitch, NoTerm, SwitchError, Unlike
from switchkinds.racks import Rack, rack_text, read_rack
from things import NO_SWITCHES, SOME_SWITCHES, THINGS, Asking, some_moves, some_switches

OF_ONE = [
    switches.ones, switches.turned, kinds.least_form, kinds.keepers, kinds.kin_of, hanging.needed, hanging.reduced,
    hanging.alike_names, hanging.by_count, hanging.marks, sums.sums, sums.nearest, sums.how_far, sums.by_weights,
    sums.is_sum, sums.is_flattest, classes.classes, classes.rising_above, texts.switch_text, terms.primes,
    terms.essentials, products.products, products.degree]
OF_TWO = [switches.both, switches.either, switches.unlike, kinds.moves_to, kinds.why_not, kinds.are_kin]
WRONG = [None, True, -1, 5, "", "a", [], (), [0], (True,), (2,), [[[[[0]]]]]]


class NoFunctionAnywhere(Asking, unittest.TestCase):
    """1.2: all functions that take switch functions refuse what is none with NoSwitch, ahead of all else"""

    def test_of_one(self):
        for asked, thing in itertools.product(OF_ONE, NO_SWITCHES):
            self.refused(NoSwitch, asked, thing)

    def test_of_two(self):
        for asked, thing in itertools.product(OF_TWO, NO_SWITCHES[::3]):
            for switch in SOME_SWITCHES[::2]:
                self.refused(NoSwitch, asked, thing, switch)
                self.refused(NoSwitch, asked, switch, thing)
            self.refused(NoSwitch, asked, thing, thing)

    def test_with_something_else_that_is_wrong(self):
        for thing, wrong in itertools.product(NO_SWITCHES[::5], WRONG):
            self.refused(NoSwitch, switches.worth_at, thing, wrong)
            self.refused(NoSwitch, moves.moved, thing, wrong)
            self.refused(NoSwitch, kinds.is_why_not, thing, (2, (0, 1, 1, 0)), wrong)
            self.refused(NoSwitch, kinds.is_why_not, (2, (0, 1, 1, 0)), thing, wrong)
            self.refused(NoSwitch, hanging.how_much, thing, wrong)
            self.refused(NoSwitch, hanging.with_set, thing, wrong, wrong)
            self.refused(NoSwitch, hanging.put_together, thing, (2, (0, 1, 1, 0)), wrong)
            self.refused(NoSwitch, hanging.put_together, (2, (0, 1, 1, 0)), thing, wrong)
            self.refused(NoSwitch, hanging.exchanged, thing, wrong, wrong)
            self.refused(NoSwitch, classes.put_in, thing, [(0, (0,)), (1, (0, 1))])
            self.refused(NoSwitch, classes.put_in, (2, (0, 1, 1, 0)), [thing])
            self.refused(NoSwitch, classes.made_of, [thing], wrong)
            self.refused(NoSwitch, Rack().put, wrong, thing)


class WhichRefusalComesFirst(Asking, unittest.TestCase):
    """0.3: NoSwitch, NoMove, NoLabel, Unlike, NoName, NoTerm"""

    def test_unlike_ahead_of_no_name(self):
        for wrong in WRONG:
            self.refused(Unlike, hanging.put_together, (4, (0,) * 16), (3, (0,) * 8), wrong)
            self.refused(Unlike, hanging.put_together, (0, (0,)), (1, (0, 1)), wrong)
        for asked in (kinds.moves_to, kinds.why_not, kinds.are_kin):
            self.refused(Unlike, asked, (4, (0,) * 16), (3, (0,) * 8))
            self.refused(Unlike, asked, (0, (0,)), (4, (0,) * 16))
        self.refused(Unlike, kinds.is_why_not, (4, (0,) * 16), (3, (0,) * 8), None)

    def test_no_label_ahead_of_unlike(self):
        rack = Rack()
        rack.put("a", (0, (0,)))
        rack.put("b", (1, (0, 1)))
        for wrong in WRONG[:5] + WRONG[6:]:
            self.refused(NoLabel, rack.join, wrong, "both", "a", "b")
        self.refused(Unlike, rack.join, "a", "both", "a", "b")

    def test_no_name_ahead_of_no_term(self):
        for many, wrong in itertools.product((None, True, -1, 5, "2", [], (2,)), WRONG):
            self.refused(NoName, terms.of_terms, many, [wrong])
        for wrong in WRONG:
            if wrong != ():
                self.refused(NoTerm, terms.of_terms, 0, [wrong])

    def test_no_move_of_a_function(self):
        for switch, wrong in itertools.product(SOME_SWITCHES, WRONG):
            self.refused(NoMove, moves.moved, switch, wrong)
            self.refused(NoMove, texts.move_text, switch[0], wrong)


class AnyThing(Asking, unittest.TestCase):
    """0.3: what takes any thing tells just True or False, or refuses, and leaves the thing as it was"""

    def test_what_tells_true_or_false(self):
        for thing in THINGS:
            ahead = repr(thing)
            for told in (switches.is_switch(thing), moves.is_move(2, thing), moves.is_move(thing, ((0,), (0,), 0)),
                         terms.is_term(2, thing), terms.is_term(thing, (None,)), terms.is_term(thing, thing)):
                self.assertIn(repr(told), ("True", "False"))
            self.assertEqual(repr(thing), ahead)

    def test_what_tells_or_refuses(self):
        rack = Rack()
        rack.put("many", (1, (0, 1)))
        for thing in THINGS:
            for asked in (lambda: terms.held_at(thing), lambda: terms.of_terms(thing, [(0,)]),
                          lambda: terms.of_terms(2, [thing]), lambda: products.of_products(thing, [0]),
                          lambda: products.of_products(2, [thing]), lambda: texts.move_text(thing, ((0,), (0,), 0)),
                          lambda: rack.switch_of(thing), lambda: rack.like(thing), lambda: read_rack(thing)):
                ahead = repr(thing)
                try:
                    asked()
                except SwitchError:
                    pass
                self.assertEqual(repr(thing), ahead)


class Together(Asking, unittest.TestCase):
    """0.2 over texts, terms, products, moves and racks at once"""

    def each_switch(self):
        for many in range(5):
            yield from some_switches(many, {3: 5, 4: 997}.get(many))

    def test_each_way_leads_back(self):
        for switch in self.each_switch():
            many = switch[0]
            self.same(texts.read_switch(texts.switch_text(switch)), switch)
            self.same(terms.of_terms(many, terms.primes(switch)), switch)
            self.same(products.of_products(many, products.products(switch)), switch)
            self.same(switches.of_ones(many, switches.ones(switch)), switch)
            self.same(sums.of_sums(sums.sums(switch)), switch)

    def test_a_move_read_again_leads_as_it_did(self):
        for many in range(5):
            switch = SOME_SWITCHES[many + 1]
            for move in some_moves(many):
                again = texts.read_move(many, texts.move_text(many, move))
                self.same(moves.moved(switch, again), moves.moved(switch, move))

    def test_moves_keep_degrees_and_how_many_primes_there_are(self):
        for many in range(4):
            for switch in some_switches(many, {3: 23}.get(many)):
                for move in some_moves(many):
                    led = moves.moved(switch, move)
                    self.same(products.degree(led), products.degree(switch))
                    if move[2] == 0:
                        self.assertEqual(len(terms.primes(led)), len(terms.primes(switch)))
                        self.assertEqual(len(terms.essentials(led)), len(terms.essentials(switch)))

    def test_all_names_of_terms_and_products_are_needed(self):
        for switch in self.each_switch():
            needed = hanging.needed(switch)
            in_terms = {name for term in terms.primes(switch) for name, part in enumerate(term) if part is not None}
            in_sets = {name for number in products.products(switch) for name in range(4) if number >> name & 1}
            self.same(sorted(in_terms), needed)
            self.same(sorted(in_sets), needed)

    def test_sums_of_names_are_those_of_degree_0_or_1(self):
        for switch in self.each_switch():
            self.assertIs(sums.is_sum(switch), products.degree(switch) <= 1)

    def test_a_rack_of_all_functions_of_two_names(self):
        rack = Rack()
        for place, switch in enumerate(switches.all_switches(2)):
            self.assertIs(rack.put("abcdefghijklmnop"[place], switch), False)
        text = rack_text(rack)
        lines = [letter + " = 2:" + format(place, "04b") + "\n" for place, letter in enumerate("abcdefghijklmnop")]
        self.same(text, "".join(lines))
        for one, other in itertools.product(rack.labels(), repeat=2):
            for word in ("both", "either", "unlike"):
                rack.join("new", word, one, other)
                self.assertEqual(len(rack.like("new")), 1)
        for count in range(3 * 16 * 16):
            self.same(rack.back(), "join")
        self.same(rack_text(rack), text)
        self.same(rack.counts(), (16, 3 * 16 * 16))


if __name__ == "__main__":
    unittest.main()
