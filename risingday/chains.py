"""Chains of moments, each of which needs the one ahead."""
from risingday.errors import BadPaper, NotSo
from risingday.keys import is_moment_key
from risingday.kinds import is_count_or_never
from risingday.moments import is_plain, moments
from risingday.needs import need_unbarred
from risingday.never import is_less
from risingday.tables import BELOW, need_key_unbarred


def depth(day):
    """The greatest number of moments in a row each of which needs the one ahead."""
    need_unbarred(day)
    needs = day.workings().needs
    depths = {}
    for key in day.workings().row:
        depths[key] = 1 + max([int(depths[need]) for need in needs[key]], default=0)
    return max([int(many) for many in depths.values()], default=0)


def is_chain(day, chain):
    """Whether any value is a chain."""
    need_unbarred(day)
    if not isinstance(chain, tuple) or len(chain) == 0 or not all([is_moment_key(day, key) for key in chain]):
        return False
    needs = day.workings().needs
    return all([chain[place - 1] in needs[chain[place]] for place in range(1, len(chain))])


def chain_table(day, chain):
    """The dict from the moments of a chain to the numbers that it gives."""
    if not is_chain(day, chain):
        raise BadPaper("chain")
    workings = day.workings()
    table = {}
    ahead = {}
    for key in chain:
        ahead = {key: workings.given(key, workings.told, ahead, BELOW)}
        table[key] = ahead[key]
    return table


def chain_numbers(day, chain):
    """The tuple of the numbers that a chain gives."""
    return tuple(chain_table(day, chain).values())


def links(workings, numbers, key):
    """The list of what a moment needs that alone gives it, [] if it comes with nothing as well."""
    if workings.given(key, workings.told, {}, BELOW) == numbers[key]:
        return []
    return [need for need in workings.needs[key]
            if workings.given(key, workings.told, {need: numbers[need]}, BELOW) == numbers[key]]


def chain_of(day, key):
    """The told chain of a moment of a plain day."""
    need_key_unbarred(day, key)
    if not is_plain(day):
        raise NotSo("chain")
    numbers = moments(day)
    chain = [key]
    ahead = links(day.workings(), numbers, key)
    while ahead:
        chain.append(ahead[0])
        ahead = links(day.workings(), numbers, ahead[0])
    return tuple(chain[::-1])


def shows_chain(day, key, number, chain):
    """Whether any value is a chain that ends with a moment and gives there any value number or more."""
    need_key_unbarred(day, key)
    if not is_count_or_never(number) or not is_chain(day, chain) or chain[-1] != key:
        return False
    return not is_less(chain_table(day, chain)[key], number)
