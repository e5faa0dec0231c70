"""Products of names, and functions as sums of them."""

from switchkinds.errors import NoName
from switchkinds.switches import check_many, of_ones, ones
from switchkinds.wholes import are_whole_below, how_many_ones, how_many_settings


def odd_within(many, numbers):
    """All settings, by number, that have within them an odd number of those with these numbers, rising."""
    found = []
    for number in range(how_many_settings(many)):
        within = [other for other in numbers if other & number == other]
        if len(within) % 2 == 1:
            found.append(number)
    return found


def products(switch):
    """The numbers of the sets of names of whose products an odd number is 1 just where the function is, rising."""
    numbers = ones(switch)
    # Done twice, this leads back, so it finds the sets just as it finds the ones of a sum of products.
    return odd_within(switch[0], numbers)


def of_products(many, numbers):
    """The function that is 1 just where an odd number of the products of these sets is, each as often as it is told."""
    check_many(many)
    if not isinstance(numbers, list) or not are_whole_below(numbers, how_many_settings(many)):
        raise NoName("these are no numbers of sets of so many names")
    return of_ones(many, odd_within(many, numbers))


def degree(switch):
    """The most names of a set of the function's products, 0 without any."""
    return max([how_many_ones(number) for number in products(switch)], default=0)
