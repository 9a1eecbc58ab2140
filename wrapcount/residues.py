"""Residues: what the meters tell of all counts, and the bounds that follow."""

from wrapcount.errors import GroupSum, NoCount
from wrapcount.networks import check_network, check_places, enters, find_groups, is_open_pipe
from wrapcount.networks import joined_places, leaves, open_neighbours, place_balances


def closed_residue(pipe, modulus):
    """Returns the residue of a closed pipe."""
    if pipe[4] is None:
        return pipe[2] % modulus
    return pipe[4]


def closed_balances(network):
    """Returns for each place what closed pipes bring minus what they take, by their residues."""
    modulus, _, pipes = network
    known = [0 if is_open_pipe(pipe) else closed_residue(pipe, modulus) for pipe in pipes]
    return place_balances(network, known)


def balance_of(balances, members, modulus):
    """Returns the balance of several places together, modulo the modulus."""
    # A pipe between two of the places counts at both of its ends, so it adds nothing.
    return sum([balances[place] for place in members]) % modulus


def find_sums(network):
    """Returns the tuple of the pairs (group, sum) for all groups."""
    modulus, places, pipes = network
    balances = closed_balances(network)
    return tuple([(group, balance_of(balances, group, modulus)) for group in find_groups(places, pipes)])


def wrong_groups(network):
    """Returns the ascending tuple of the groups whose sums are not 0."""
    return tuple([group for group, total in find_sums(network) if total != 0])


def check_sums(network):
    """Raises GroupSum for the first group whose sum is not 0."""
    wrong = wrong_groups(network)
    if wrong:
        raise GroupSum(wrong[0])


def group_sums(network):
    """Returns the tuple of the pairs (group, sum) for all groups."""
    check_network(network)
    return find_sums(network)


def find_residues(network):
    """Returns the tuple of the residues of all pipes. The sums of all groups are 0."""
    modulus, places, pipes = network
    balances = closed_balances(network)
    near = open_neighbours(places, pipes)
    found = []
    for index, pipe in enumerate(pipes):
        if is_open_pipe(pipe):
            # All pipes that enter or leave these places are closed, except this one.
            behind = joined_places(near, pipe[0], index)
            found.append(balance_of(balances, behind, modulus))
        else:
            found.append(closed_residue(pipe, modulus))
    return tuple(found)


def residues(network):
    """Returns the tuple of the residues of all pipes."""
    check_network(network)
    check_sums(network)
    return find_residues(network)


def pipe_bounds(pipe, residue, modulus):
    """Returns the bounds of a pipe with this residue, or None if there are none."""
    low, high = pipe[2], pipe[3]
    least = low + (residue - low) % modulus
    greatest = high - (high - residue) % modulus
    if least > greatest:
        return None
    return (least, greatest)


def find_bounds(network):
    """Returns the tuple of the bounds of all pipes, None without bounds. The sums of all groups are 0."""
    modulus, _, pipes = network
    return tuple([pipe_bounds(pipe, residue, modulus) for pipe, residue in zip(pipes, find_residues(network))])


def bounds(network):
    """Returns the tuple of the bounds of all pipes, with None for a pipe without bounds."""
    check_network(network)
    check_sums(network)
    return find_bounds(network)


def unbound_pipes(limits):
    """Returns the ascending tuple of the indexes of the pipes without bounds."""
    return tuple([index for index, pair in enumerate(limits) if pair is None])


def check_counts(limits):
    """Raises NoCount for the first pipe without bounds."""
    wrong = unbound_pipes(limits)
    if wrong:
        raise NoCount(wrong[0])


def find_excess(network, limits, places):
    """Returns the excess of the set of places. All pipes have bounds, the limits."""
    total = 0
    for pipe, (least, greatest) in zip(network[2], limits):
        if enters(pipe, places):
            total += least
        if leaves(pipe, places):
            total -= greatest
    return total


def excess(network, places):
    """Returns the excess of the set of places."""
    check_network(network)
    check_places(network, places)
    check_sums(network)
    limits = find_bounds(network)
    check_counts(limits)
    return find_excess(network, limits, places)
