"""Residues: what the meters tell of all counts, and the bounds that follow."""

from wrapcount.errors import GroupSum, NoCount
from wrapcount.networks import check_places, checked_branches, find_groups, place_balances


def carry_along(network, branches, counts):
    """Sets the counts of the branches, so that each carries on what the other counts leave over at its place.

    What is left over among places that branches join comes together at one of them. Returns it for
    each place.
    """
    for index, _, _ in branches:
        counts[index] = 0
    left = place_balances(network, counts)
    for index, place, other in branches:
        carried = left[place]
        left[place] = 0
        left[other] += carried
        counts[index] = carried if network[2][index][0] == place else -carried
    return left


def read_meters(network, branches):
    """Returns the list of the residues of all pipes, and for each place what is left over there.

    The sum of a group is left over at one of its places. The residues of the open pipes are right
    if all sums are 0.
    """
    modulus = network[0]
    known = [pipe[2] % modulus if pipe[4] is None else pipe[4] for pipe in network[2]]
    left = carry_along(network, branches, known)
    for index, _, _ in branches:
        known[index] %= modulus
    return known, [rest % modulus for rest in left]


def find_sums(network, branches, left):
    """Returns the tuple of the pairs (group, sum) for all groups, from what is left over at the places."""
    return tuple([(group, sum([left[place] for place in group])) for group in find_groups(network[1], branches)])


def group_sums(network):
    """Returns the tuple of the pairs (group, sum) for all groups."""
    branches = checked_branches(network)
    _, left = read_meters(network, branches)
    return find_sums(network, branches, left)


def checked_residues(network, branches):
    """Returns the list of the residues of all pipes, and raises GroupSum for the first sum that is not 0."""
    known, left = read_meters(network, branches)
    if any(left):
        wrong = [group for group, total in find_sums(network, branches, left) if total != 0]
        raise GroupSum(wrong[0])
    return known


def residues(network):
    """Returns the tuple of the residues of all pipes."""
    return tuple(checked_residues(network, checked_branches(network)))


def find_bounds(network, known):
    """Returns the list of the bounds of all pipes with these residues, with None for a pipe without bounds."""
    modulus = network[0]
    pairs = [
        (low + (residue - low) % modulus, high - (high - residue) % modulus)
        for (_, _, low, high, _), residue in zip(network[2], known)
    ]
    return [pair if pair[0] <= pair[1] else None for pair in pairs]


def bounds(network):
    """Returns the tuple of the bounds of all pipes, with None for a pipe without bounds."""
    known = checked_residues(network, checked_branches(network))
    return tuple(find_bounds(network, known))


def checked_bounds(network, branches):
    """Returns the list of the bounds of all pipes, and raises GroupSum, or NoCount for the first without bounds."""
    limits = find_bounds(network, checked_residues(network, branches))
    for index, pair in enumerate(limits):
        if pair is None:
            raise NoCount(index)
    return limits


def find_excess(network, limits, places):
    """Returns the excess of the set of places. The limits are the bounds of all pipes."""
    inside = [False] * network[1]
    for place in places:
        inside[place] = True
    total = 0
    for pipe, (least, greatest) in zip(network[2], limits):
        if inside[pipe[0]] != inside[pipe[1]]:
            total += least if inside[pipe[1]] else -greatest
    return total


def excess(network, places):
    """Returns the excess of the set of places."""
    branches = checked_branches(network)
    check_places(network, places)
    return find_excess(network, checked_bounds(network, branches), places)
