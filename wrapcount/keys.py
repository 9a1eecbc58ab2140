"""Keys: pipes whose counts determine those of all others.

What open pipes are to the residues, the loose pipes outside a key are to the counts: they contain
no ring, and each carries on what the others leave over.
"""

from wrapcount.cheapest import MAX_WEIGHT, check_weights
from wrapcount.errors import InvalidAnswer, InvalidPipes
from wrapcount.flows import find_fault
from wrapcount.networks import checked_branches, find_branches, is_between, is_integer, is_number_set
from wrapcount.ranges import find_ranges
from wrapcount.residues import carry_along


def loose_among(spans):
    """Returns the ascending tuple of the indexes of the pipes whose ranges hold several counts."""
    return tuple([index for index, (least, greatest) in enumerate(spans) if least < greatest])


def loose_pipes(network):
    """Returns the ascending tuple of the indexes of all loose pipes."""
    return loose_among(find_ranges(network, checked_branches(network)))


def find_twigs(network, loose, pipes):
    """Returns the branches that the loose pipes outside the set form, or None if they contain a ring."""
    outside = [index in loose and index not in pipes for index in range(len(network[2]))]
    # Only open pipes form branches, so those outside are written as open ones.
    marked = [(pipe[0], pipe[1], 0, 1 if wanted else 0, None) for pipe, wanted in zip(network[2], outside)]
    return find_branches(network[1], marked)


def is_key(network, pipes):
    """Tells whether the set of pipes is a key."""
    branches = checked_branches(network)
    if not is_number_set(pipes, len(network[2])):
        raise InvalidPipes(pipes)
    loose = loose_among(find_ranges(network, branches))
    return find_twigs(network, loose, pipes) is not None


def has_counts(value, end):
    """Tells whether the value, of any kind, is a tuple of pairs of an index and an integer, the indexes ascending."""
    if not isinstance(value, tuple):
        return False
    for item in value:
        if not isinstance(item, tuple) or len(item) != 2 or not is_integer(item[1]):
            return False
    return is_number_set(tuple([item[0] for item in value]), end)


def flow_by_key(network, counts):
    """Returns the flow with these counts at the pipes of a key, or None if there is none."""
    branches = checked_branches(network)
    if not has_counts(counts, len(network[2])):
        raise InvalidPipes(counts)
    spans = find_ranges(network, branches)
    twigs = find_twigs(network, loose_among(spans), [pipe for pipe, _ in counts])
    if twigs is None:
        raise InvalidPipes(counts)
    told = [least for least, _ in spans]
    for pipe, count in counts:
        told[pipe] = count
    carry_along(network, twigs, told)
    flow = tuple(told)
    return flow if find_fault(network, flow) is None else None


def closing_pipes(network, pipes):
    """Returns the list of those of the pipes that close a ring with pipes before them, in the order of the pipes."""
    # Places that pipes join have the same stem.
    stems = list(range(network[1]))
    closing = []
    for index in pipes:
        source, target = [stems[place] for place in network[2][index][:2]]
        if source == target:
            closing.append(index)
        stems = [target if stem == source else stem for stem in stems]
    return closing


def find_cheapest_key(network, costs, loose):
    """Returns the pair of the least cost of all keys and a key of loose pipes with it."""
    # The most expensive pipes are the first to stay outside the key.
    order = [index for _, index in sorted([(-costs[index], index) for index in loose])]
    key = tuple(sorted(closing_pipes(network, order)))
    return (sum([costs[index] for index in key]), key)


def cheapest_key(network, costs):
    """Returns the pair of the least cost of all keys and a key of loose pipes with it."""
    branches = checked_branches(network)
    check_weights(network, costs, 1)
    return find_cheapest_key(network, costs, loose_among(find_ranges(network, branches)))


def check_cheapest_key(network, costs, answer):
    """Returns the cost if the answer is a result that cheapest_key may return."""
    branches = checked_branches(network)
    check_weights(network, costs, 1)
    loose = loose_among(find_ranges(network, branches))
    if not isinstance(answer, tuple) or len(answer) != 2:
        raise InvalidAnswer("form")
    cost, key = answer
    if not is_number_set(key, len(network[2])):
        raise InvalidAnswer("key")
    if [pipe for pipe in key if pipe not in loose] or find_twigs(network, loose, key) is None:
        raise InvalidAnswer("key")
    least, _ = find_cheapest_key(network, costs, loose)
    if sum([costs[pipe] for pipe in key]) != least or not is_between(cost, least, least):
        raise InvalidAnswer("cost")
    return cost
