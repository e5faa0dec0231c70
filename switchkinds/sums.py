"""Sums of a function over all settings, and how far functions are from sums of names."""

from switchkinds.errors import NoSums
from switchkinds.switches import check_switch
from switchkinds.wholes import MOST_NAMES, how_many_ones, how_many_settings, is_whole


def summed(numbers):
    """For each setting all numbers together, less those of settings with an odd number of ones in common with it."""
    if len(numbers) == 1:
        return numbers
    # The halves are those without and with the last name, which is in common with the second half of the settings.
    half = len(numbers) // 2
    low = summed(numbers[:half])
    high = summed(numbers[half:])
    return [here + there for here, there in zip(low, high)] + [here - there for here, there in zip(low, high)]


def sums(switch):
    """For each setting, by its number, what all settings come to."""
    check_switch(switch)
    return tuple(summed([1 - 2 * worth for worth in switch[1]]))


def are_numbers(thing):
    """Whether any thing is a tuple of whole numbers, one for each setting of 0 to 4 names."""
    if not isinstance(thing, tuple) or not all([is_whole(part) for part in thing]):
        return False
    return len(thing) in [how_many_settings(many) for many in range(MOST_NAMES + 1)]


def of_sums(numbers):
    """The function that has these sums."""
    if not are_numbers(numbers):
        raise NoSums("these are no sums of a function")
    settings = len(numbers)
    # Summed twice, the signs of a function come back as often as there are settings.
    signs = summed(numbers)
    if not all([abs(sign) == settings for sign in signs]):
        raise NoSums("no function has these sums")
    return (settings.bit_length() - 1, tuple([1 if sign < 0 else 0 for sign in signs]))


def by_weights(switch):
    """For each number of ones, all squares of sums at settings with so many ones, together."""
    check_switch(switch)
    weights = [0] * (switch[0] + 1)
    for number, part in enumerate(sums(switch)):
        weights[how_many_ones(number)] += part * part
    return weights


def sum_of_names(many, number, turn):
    """1 where an odd number of the names that are 1 in the setting with the number is 1, or turned."""
    common = [how_many_ones(number & other) for other in range(how_many_settings(many))]
    return (many, tuple([(count + turn) % 2 for count in common]))


def nearest(switch):
    """The nearest sum of names, and at how many settings it is unlike."""
    parts = sums(switch)
    sizes = [abs(part) for part in parts]
    most = max(sizes)
    # Of the greatest sizes the first has the least number; none of them is 0, so its sign tells whether to turn.
    number = sizes.index(most)
    turn = 1 if parts[number] < 0 else 0
    return (sum_of_names(switch[0], number, turn), (len(parts) - most) // 2)


def how_far(switch):
    """At how many settings the nearest sum of names is unlike."""
    return nearest(switch)[1]


def is_sum(switch):
    """Whether the function is a sum of names."""
    return how_far(switch) == 0


def is_flattest(switch):
    """Whether all sums are the same but for signs."""
    sizes = [abs(part) for part in sums(switch)]
    return min(sizes) == max(sizes)
