"""Lists of flows: all flows of a network in ascending order, and their ranks.

The first pipe at which two flows differ closes a ring with later loose pipes. All such pipes are a
key, and so the flows are in ascending order if their counts at this key are.
"""

from wrapcount.decisions import find_decision
from wrapcount.errors import InvalidRank, LimitExceeded
from wrapcount.flows import check_counts
from wrapcount.keys import closing_pipes, loose_among
from wrapcount.networks import checked_branches, is_between
from wrapcount.ranges import lower_count, trial_ranges

MAX_LISTED = 500


def raise_by_wrap(trial, network, pipe):
    """Raises the count of the pipe to the next possible one. Returns False if there is none."""
    source, target = network[2][pipe][:2]
    return trial.room[2 * pipe] > 0 and trial.exhaust(2 * pipe, target, source, network[0]) is None


def add_flows(trial, network, key, found):
    """Adds to the list all flows with the counts that are held. The key determines all others."""
    if not key:
        if len(found) == MAX_LISTED:
            raise LimitExceeded(MAX_LISTED)
        found.append(trial.counts())
        return
    pipe = key[0]
    lower_count(trial, network, pipe)
    more = True
    while more:
        kept = trial.hold(pipe)
        add_flows(trial, network, key[1:], found)
        trial.let_go(pipe, kept)
        more = raise_by_wrap(trial, network, pipe)


def checked_flows(network):
    """Returns the list of all flows in ascending order, and raises LimitExceeded if there are too many."""
    _, trial = find_decision(network, checked_branches(network))
    found = []
    if trial is not None:
        loose = loose_among(trial_ranges(trial, network))
        add_flows(trial, network, sorted(closing_pipes(network, loose[::-1])), found)
    return found


def list_flows(network):
    """Returns the list of all flows in ascending order."""
    return checked_flows(network)


def count_flows(network):
    """Returns the number of flows."""
    return len(checked_flows(network))


def flow_by_rank(network, rank):
    """Returns the flow with this rank."""
    found = checked_flows(network)
    if not is_between(rank, 0, len(found) - 1):
        raise InvalidRank(rank)
    return found[rank]


def rank_of_flow(network, flow):
    """Returns the rank of a flow."""
    found = checked_flows(network)
    check_counts(network, flow)
    return found.index(flow)
