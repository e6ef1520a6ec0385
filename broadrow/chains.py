"""Chains: programs put otherwise again and again."""

from broadrow.alike import alike
from broadrow.errors import NoRule
from broadrow.recast import first_recast
from broadrow.rules import put_otherwise


def is_chain(program, thing):
    """Whether any thing is a chain from the program."""
    if not isinstance(thing, list):
        return False
    last = program
    for one in thing:
        if not is_link(last, one):
            return False
        last = one[2]
    return True


def is_link(program, thing):
    """Whether any thing is a tuple (rule, place, program), of the program put otherwise so."""
    if not isinstance(thing, tuple) or len(thing) != 3:
        return False
    try:
        other = put_otherwise(program, thing[0], thing[1])
    except NoRule:
        return False
    return alike(other, thing[2])


def settled(program):
    """The chain of a program that is put otherwise by the first that fits, till none does."""
    told = []
    link = first_recast(program)
    while link is not None:
        told.append(link)
        link = first_recast(link[2])
    return told
