"""Stage 9, products: 9.1, 0.2 (h), and 0.3 and 1.2 as far as products go."""

import itertools
import unittest

from switchkinds.errors import NoName, NoSwitch
from switchkinds.products import degree, of_products, products
from switchkinds.switches import both, constant, single, unlike
from things import NO_SWITCHES, THINGS, Asking, no_wholes, settings_by_words, some_switches


def product_by_words(many, number):
    """The product of the names that are 1 in the setting with the number."""
    names = [name for name, part in enumerate(settings_by_words(many)[number]) if part == 1]
    return tuple(1 if all(setting[name] == 1 for name in names) else 0 for setting in settings_by_words(many))


PRODUCTS = [[product_by_words(many, number) for number in range(2 ** many)] for many in range(5)]


def of_products_by_words(many, numbers):
    counts = [sum(PRODUCTS[many][number][place] for number in numbers) for place in range(2 ** many)]
    return (many, tuple(count % 2 for count in counts))


def all_sums_of_products(many):
    """For each function the rising list of sets that gives it, by trial of all lists of sets."""
    found = {}
    for chosen in itertools.product((False, True), repeat=2 ** many):
        numbers = [number for number in range(2 ** many) if chosen[number]]
        found[of_products_by_words(many, numbers)] = numbers
    return found


class Products(Asking, unittest.TestCase):
    """9.1, products, and 0.2 (h)"""

    def test_by_hand(self):
        self.same(products((0, (0,))), [])
        self.same(products((0, (1,))), [0])
        self.same(products((1, (0, 1))), [1])
        self.same(products((1, (1, 0))), [0, 1])
        self.same(products((1, (1, 1))), [0])
        self.same(products((2, (0, 1, 1, 0))), [1, 2])
        self.same(products((2, (0, 1, 1, 1))), [1, 2, 3])
        self.same(products((2, (1, 1, 1, 0))), [0, 3])
        self.same(products((3, (0, 0, 0, 1, 0, 1, 1, 1))), [3, 5, 6])
        self.same(products((4, (1,) + (0,) * 15)), list(range(16)))
        self.same(products((4, (0,) * 15 + (1,))), [15])

    def test_constants_and_single_names(self):
        for many in range(5):
            self.same(products(constant(many, 0)), [])
            self.same(products(constant(many, 1)), [0])
            for name, number in zip(range(many), (1, 2, 4, 8)):
                self.same(products(single(many, name)), [number])

    def test_by_trial_of_all_lists_of_sets(self):
        for many in range(4):
            found = all_sums_of_products(many)
            self.assertEqual(len(found), 2 ** 2 ** many)
            for switch, numbers in found.items():
                self.same(products(switch), numbers)

    def test_lead_back_by_the_words(self):
        # A function of 4 names has just one rising list of sets, so that which leads back is the one.
        for many in range(5):
            for switch in some_switches(many, 31 if many == 4 else None):
                numbers = products(switch)
                self.same(numbers, sorted(set(numbers)))
                self.same(of_products_by_words(many, numbers), switch)
                self.same(of_products(many, numbers), switch)

    def test_of_no_function(self):
        for thing in NO_SWITCHES:
            self.refused(NoSwitch, products, thing)
            self.refused(NoSwitch, degree, thing)

    def test_told_lists_are_new_ones(self):
        for many in range(5):
            for switch in some_switches(many, {3: 23, 4: 4999}.get(many)):
                self.new_each_time(products, switch)


class OfProducts(Asking, unittest.TestCase):
    """9.1, of_products"""

    def test_by_hand(self):
        self.same(of_products(0, []), (0, (0,)))
        self.same(of_products(0, [0]), (0, (1,)))
        self.same(of_products(0, [0, 0]), (0, (0,)))
        self.same(of_products(1, [0]), (1, (1, 1)))
        self.same(of_products(2, [3]), (2, (0, 0, 0, 1)))
        self.same(of_products(2, [2, 1]), (2, (0, 1, 1, 0)))
        self.same(of_products(2, [1, 1]), (2, (0, 0, 0, 0)))
        self.same(of_products(2, [1, 2, 1]), (2, (0, 0, 1, 1)))
        self.same(of_products(2, [3, 3, 3]), (2, (0, 0, 0, 1)))
        self.same(of_products(4, [15, 0]), (4, (1,) * 15 + (0,)))

    def test_no_sets_and_the_empty_set(self):
        for many in range(5):
            self.same(of_products(many, []), constant(many, 0))
            self.same(of_products(many, [0]), constant(many, 1))

    def test_each_product_by_the_words(self):
        for many in range(5):
            for number in range(2 ** many):
                self.same(of_products(many, [number]), (many, PRODUCTS[many][number]))
                self.same(of_products(many, [number] * 2), constant(many, 0))
                self.same(of_products(many, [number] * 7), (many, PRODUCTS[many][number]))

    def test_each_as_often_as_it_is_told(self):
        for many, most in ((0, 5), (1, 5), (2, 5), (3, 3), (4, 2)):
            for count in range(most + 1):
                for numbers in itertools.product(range(2 ** many), repeat=count):
                    self.same(of_products(many, list(numbers)), of_products_by_words(many, numbers))

    def test_lead_back_to_the_sets(self):
        for many in range(5):
            for chosen in range(0, 2 ** 2 ** many, 31 if many == 4 else 1):
                numbers = [number for number in range(2 ** many) if chosen >> number & 1]
                self.same(products(of_products(many, numbers)), numbers)

    def test_of_no_number_of_names(self):
        for many in no_wholes(0, 4):
            for numbers in ([], [0], [1, 0], [31], [None]):
                self.refused(NoName, of_products, many, numbers)

    def test_of_no_number_of_a_set(self):
        for many in range(5):
            for thing in no_wholes(0, 2 ** many - 1):
                self.refused(NoName, of_products, many, [thing])
                self.refused(NoName, of_products, many, [0, thing])
                self.refused(NoName, of_products, many, [thing, thing])
                self.refused(NoName, of_products, many, [2 ** many - 1, thing, 0])

    def test_of_no_list(self):
        for thing in THINGS:
            if not isinstance(thing, list):
                self.refused(NoName, of_products, 2, thing)

    def test_the_list_is_as_it_was(self):
        numbers = [3, 1, 1, 0]
        of_products(2, numbers)
        self.same(numbers, [3, 1, 1, 0])


class Degree(Asking, unittest.TestCase):
    """9.1, degree"""

    def test_by_hand(self):
        self.same(degree((0, (0,))), 0)
        self.same(degree((0, (1,))), 0)
        self.same(degree((1, (1, 0))), 1)
        self.same(degree((2, (0, 1, 1, 0))), 1)
        self.same(degree((2, (0, 1, 1, 1))), 2)
        self.same(degree((3, (0, 0, 0, 1, 0, 1, 1, 1))), 2)
        self.same(degree((4, (1,) + (0,) * 15)), 4)
        self.same(degree(unlike(both(single(4, 0), single(4, 1)), both(single(4, 2), single(4, 3)))), 2)

    def test_constants_and_single_names(self):
        for many in range(5):
            self.same(degree(constant(many, 0)), 0)
            self.same(degree(constant(many, 1)), 0)
            for name in range(many):
                self.same(degree(single(many, name)), 1)

    def test_by_the_words(self):
        for many in range(4):
            for switch, numbers in all_sums_of_products(many).items():
                self.same(degree(switch), max([bin(number).count("1") for number in numbers], default=0))

    def test_of_4_names_by_its_products(self):
        for switch in some_switches(4, 31):
            most = max([bin(number).count("1") for number in products(switch)], default=0)
            self.same(degree(switch), most)

    def test_of_each_product(self):
        for many in range(5):
            for number, setting in enumerate(settings_by_words(many)):
                self.same(degree((many, PRODUCTS[many][number])), setting.count(1))

    def test_all_names_just_of_an_odd_number_of_ones(self):
        for switch in some_switches(4, 31):
            self.assertEqual(degree(switch) == 4, switch[1].count(1) % 2 == 1)


if __name__ == "__main__":
    unittest.main()
