"""Flows: whether counts are one."""

from wrapcount.errors import InvalidFlow
from wrapcount.networks import check_network, is_between, place_balances


def find_fault(network, value):
    """Returns None if the value, of any kind, is a flow, and otherwise the pair (part, number) of the first fault."""
    modulus, _, pipes = network
    if not isinstance(value, tuple) or len(value) != len(pipes):
        return ("form", None)
    for index, (_, _, low, high, meter) in enumerate(pipes):
        if not is_between(value[index], low, high):
            return ("count", index)
        if meter is not None and value[index] % modulus != meter:
            return ("meter", index)
    for place, balance in enumerate(place_balances(network, value)):
        if balance != 0:
            return ("place", place)
    return None


def check_counts(network, value):
    """Raises InvalidFlow for the first fault if the value is not a flow of the network."""
    fault = find_fault(network, value)
    if fault is not None:
        raise InvalidFlow(fault[0], fault[1])


def check_flow(network, value):
    """Returns None if the value is a flow, and raises the first error that applies otherwise."""
    check_network(network)
    check_counts(network, value)


def is_flow(network, value):
    """Tells whether the value, of any kind, is a flow."""
    check_network(network)
    return find_fault(network, value) is None
