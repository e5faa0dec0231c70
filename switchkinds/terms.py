"""Terms: what some names are, and functions told by them."""

from switchkinds.errors import NoTerm
from switchkinds.switches import check_many, check_switch, of_ones
from switchkinds.wholes import is_many, is_whole_below

PARTS = (0, 1, None)


def is_part(thing):
    """Whether any thing can stand for a name in a term."""
    return thing is None or is_whole_below(thing, 2)


def is_term(many, thing):
    """Whether any thing is a term of so many names."""
    if not is_many(many) or not isinstance(thing, tuple) or len(thing) != many:
        return False
    return all([is_part(part) for part in thing])


def check_term(many, thing):
    """NoTerm of what is no term of so many names."""
    if not is_term(many, thing):
        raise NoTerm("this is no term of so many names")


def held_at(term):
    """The numbers of all settings at which the term holds, rising."""
    if not isinstance(term, tuple):
        raise NoTerm("this is no term")
    check_term(len(term), term)
    numbers = [0]
    for name, part in enumerate(term):
        low = [] if part == 1 else numbers
        high = [] if part == 0 else [number + (1 << name) for number in numbers]
        numbers = low + high
    return numbers


def of_terms(many, terms):
    """The function that is 1 just where some of the terms holds."""
    check_many(many)
    if not isinstance(terms, (list, tuple)):
        raise NoTerm("this is no list of terms")
    numbers = []
    for term in terms:
        check_term(many, term)
        numbers.extend(held_at(term))
    return of_ones(many, numbers)


def all_terms(many):
    """All terms of so many names, in order."""
    terms = [()]
    for name in range(many):
        longer = []
        for term in terms:
            longer.extend([term + (part,) for part in PARTS])
        terms = longer
    return terms


def widened(term):
    """The terms in which one 0 or 1 of this one is made None."""
    return [term[:name] + (None,) + term[name + 1:] for name, part in enumerate(term) if part is not None]


def primes(switch):
    """In order, all terms within the function that are within it no more with a 0 or 1 made None."""
    check_switch(switch)
    within = {}
    for term in all_terms(switch[0]):
        if all([switch[1][number] == 1 for number in held_at(term)]):
            within[term] = True
    return [term for term in within if not any([wider in within for wider in widened(term)])]


def essentials(switch):
    """Those of the primes that hold somewhere where no other one of them does, in order."""
    terms = primes(switch)
    counts = [0] * len(switch[1])
    for term in terms:
        for number in held_at(term):
            counts[number] += 1
    return [term for term in terms if any([counts[number] == 1 for number in held_at(term)])]
