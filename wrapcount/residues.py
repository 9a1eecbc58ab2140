"""Residues: what the meters tell of all counts, and the bounds that follow."""

from wrapcount.errors import GroupSum, NoCount
from wrapcount.networks import check_network, check_places, enters, find_groups
from wrapcount.networks import is_open_pipe, joined_places, leaves, open_neighbours


def closed_residue(pipe, modulus):
    """Returns the residue of a closed pipe."""
    if pipe[4] is None:
        return pipe[2] % modulus
    return pipe[4]


def place_balances(network):
    """Returns for each place what closed pipes bring minus what they take, by their residues."""
    modulus, places, pipes = network
    balances = [0] * places
    for pipe in pipes:
        if not is_open_pipe(pipe):
            residue = closed_residue(pipe, modulus)
            balances[pipe[1]] += residue
            balances[pipe[0]] -= residue
    return balances


def balance_of(balances, members, modulus):
    """Returns the balance of several places together, modulo the modulus."""
    # A pipe between two of the places counts at both of its ends, so it adds nothing.
    return sum([balances[place] for place in members]) % modulus


def find_sums(network):
    """Returns the tuple of the pairs (group, sum) for all groups."""
    modulus, places, pipes = network
    balances = place_balances(network)
    return tuple([(group, balance_of(balances, group, modulus)) for group in find_groups(places, pipes)])


def check_sums(network):
    """Raises GroupSum for the first group whose sum is not 0."""
    for group, total in find_sums(network):
        if total != 0:
            raise GroupSum(group)


def group_sums(network):
    """Returns the tuple of the pairs (group, sum) for all groups."""
    check_network(network)
    return find_sums(network)


def residues(network):
    """Returns the tuple of the residues of all pipes."""
    check_network(network)
    check_sums(network)
    modulus, places, pipes = network
    balances = place_balances(network)
    near = open_neighbours(places, pipes)
    found = []
    for index, pipe in enumerate(pipes):
        if is_open_pipe(pipe):
            # All pipes that enter or leave these places are closed, except this one.
            behind = joined_places(near, pipe[0], index)
            found.append(balance_of(balances, behind, modulus))
        else:
            found.append(closed_residue(pipe, modulus))
    return tuple(found)


def pipe_bounds(pipe, residue, modulus):
    """Returns the bounds of a pipe with this residue, or None if there are none."""
    low, high = pipe[2], pipe[3]
    least = low + (residue - low) % modulus
    greatest = high - (high - residue) % modulus
    if least > greatest:
        return None
    return (least, greatest)


def bounds(network):
    """Returns the tuple of the bounds of all pipes, with None for a pipe without bounds."""
    known = residues(network)
    modulus, _, pipes = network
    return tuple([pipe_bounds(pipe, residue, modulus) for pipe, residue in zip(pipes, known)])


def check_counts(limits):
    """Raises NoCount for the first pipe without bounds."""
    for index, pair in enumerate(limits):
        if pair is None:
            raise NoCount(index)


def excess(network, places):
    """Returns the excess of the set of places."""
    check_network(network)
    check_places(network, places)
    limits = bounds(network)
    check_counts(limits)
    total = 0
    for pipe, (least, greatest) in zip(network[2], limits):
        if enters(pipe, places):
            total += least
        if leaves(pipe, places):
            total -= greatest
    return total
