"""Variants of networks: reversed pipes, renumbered places, and the sum of two networks."""

from wrapcount.errors import InvalidOrder, NetworkMismatch
from wrapcount.networks import MAX_COUNT, check_network, is_between, is_open_pipe


def reverse_pipes(network):
    """Returns the network in which the source and the target of every pipe are exchanged."""
    check_network(network)
    modulus, places, pipes = network
    turned = [(target, source, low, high, meter) for source, target, low, high, meter in pipes]
    return (modulus, places, tuple(turned))


def is_order(value, places):
    """Tells whether the value, of any kind, is a tuple that contains every place once."""
    if not isinstance(value, tuple) or len(value) != places:
        return False
    seen = {}
    for place in value:
        if not is_between(place, 0, places - 1) or place in seen:
            return False
        seen[place] = True
    return True


def renumber_places(network, order):
    """Returns the network in which every place p has the number order[p]."""
    check_network(network)
    modulus, places, pipes = network
    if not is_order(order, places):
        raise InvalidOrder(order)
    moved = [(order[source], order[target], low, high, meter) for source, target, low, high, meter in pipes]
    return (modulus, places, tuple(moved))


def can_add(pipe, other):
    """Tells whether two pipes can be added: they have the same ends and the same openness, and one can hold both."""
    return (
        pipe[:2] == other[:2]
        and (pipe[4] is None) == (other[4] is None)
        and is_open_pipe(pipe) == is_open_pipe(other)
        and pipe[3] + other[3] <= MAX_COUNT
    )


def add_pipes(pipe, other, modulus):
    """Returns the sum of two pipes that can be added."""
    source, target, low, high, meter = pipe
    total = None if meter is None else (meter + other[4]) % modulus
    return (source, target, low + other[2], high + other[3], total)


def add_networks(one, other):
    """Returns the sum of two networks."""
    check_network(one)
    check_network(other)
    if one[:2] != other[:2] or len(one[2]) != len(other[2]):
        raise NetworkMismatch(None)
    modulus, places, pipes = one
    pairs = list(zip(pipes, other[2]))
    for index, (pipe, added) in enumerate(pairs):
        if not can_add(pipe, added):
            raise NetworkMismatch(index)
    return (modulus, places, tuple([add_pipes(pipe, added, modulus) for pipe, added in pairs]))
