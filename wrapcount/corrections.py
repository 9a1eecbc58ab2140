"""Corrections: single meters of a network without a flow, and other readings of them with which there is one."""

from wrapcount.decisions import find_decision, is_correct
from wrapcount.errors import LimitExceeded
from wrapcount.networks import checked_branches, find_groups, with_meter
from wrapcount.residues import find_sums, read_meters

MAX_CORRECTED = 100


def balancing_pairs(network, branches):
    """Returns the list of the pairs (pipe, meter) by [51]: with each of them alone, the sums of all groups are 0."""
    modulus, _, pipes = network
    _, left = read_meters(network, branches)
    wrong = [(group, total) for group, total in find_sums(network, branches, left) if total != 0]
    if len(wrong) != 2:
        return []
    pairs = []
    for (group, total), (other, _) in (wrong, wrong[::-1]):
        for index, (source, target, _, _, meter) in enumerate(pipes):
            if meter is not None and source in group and target in other:
                pairs.append((index, (meter + total) % modulus))
    return pairs


def inner_pairs(network, branches):
    """Returns the list of the pairs (pipe, meter) by [52]: all sums are 0, and remain so."""
    pairs = []
    groups = find_groups(network[1], branches)
    for index, (source, target, _, _, meter) in enumerate(network[2]):
        joined = [group for group in groups if source in group and target in group]
        if meter is not None and joined:
            pairs += [(index, other) for other in range(network[0]) if other != meter]
    return pairs


def corrections(network):
    """Returns the ascending tuple of all corrections."""
    branches = checked_branches(network)
    if network[0] > MAX_CORRECTED:
        raise LimitExceeded(MAX_CORRECTED)
    reason, trial = find_decision(network, branches)
    if trial is not None:
        return ()
    pairs = balancing_pairs(network, branches) if reason[0] == "sum" else inner_pairs(network, branches)
    found = []
    for index, meter in pairs:
        changed = with_meter(network, index, meter)
        # A reason often holds again with the next meter. To see that takes less time than to find one.
        if not is_correct(changed, branches, reason[0], reason[1]):
            answer, trial = find_decision(changed, branches)
            if trial is None:
                reason = answer
            else:
                found.append((index, meter))
    return tuple(sorted(found))
