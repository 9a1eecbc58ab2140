"""Ranges: the least and the greatest possible counts, with what enforces them."""

from wrapcount.decisions import find_decision
from wrapcount.errors import InvalidAnswer, NoFlow
from wrapcount.flows import find_fault
from wrapcount.networks import check_index, checked_branches, enters, is_between, is_number_set, leaves
from wrapcount.residues import checked_bounds, find_excess


def flowing_trial(network, branches):
    """Returns a trial whose counts are a flow, and raises NoFlow if there is none."""
    answer, trial = find_decision(network, branches)
    if trial is None:
        raise NoFlow(answer)
    return trial


def raise_count(trial, network, pipe):
    """Raises the count of a pipe as far as possible. Returns None, or the places that set the end to it."""
    source, target = network[2][pipe][:2]
    return trial.exhaust(2 * pipe, target, source, trial.room[2 * pipe])


def lower_count(trial, network, pipe):
    """Lowers the count of a pipe as far as possible. Returns None, or the places that set the end to it."""
    source, target = network[2][pipe][:2]
    return trial.exhaust(2 * pipe + 1, source, target, trial.room[2 * pipe + 1])


def greatest_count(network, pipe):
    """Returns the triple of the greatest possible count of the pipe, a flow with it, and what enforces it."""
    branches = checked_branches(network)
    check_index(network, pipe)
    trial = flowing_trial(network, branches)
    places = raise_count(trial, network, pipe)
    return (trial.count_of(pipe), trial.counts(), places)


def least_count(network, pipe):
    """Returns the triple of the least possible count of the pipe, a flow with it, and what enforces it."""
    branches = checked_branches(network)
    check_index(network, pipe)
    trial = flowing_trial(network, branches)
    places = lower_count(trial, network, pipe)
    return (trial.count_of(pipe), trial.counts(), places)


def trial_ranges(trial, network):
    """Returns the tuple of the ranges of all pipes. The counts of the trial are changed to those of another flow."""
    found = []
    for pipe in range(len(network[2])):
        lower_count(trial, network, pipe)
        least = trial.count_of(pipe)
        raise_count(trial, network, pipe)
        found.append((least, trial.count_of(pipe)))
    return tuple(found)


def find_ranges(network, branches):
    """Returns the tuple of the ranges of all pipes, and raises NoFlow if there is no flow."""
    return trial_ranges(flowing_trial(network, branches), network)


def ranges(network):
    """Returns the tuple of the pairs (least possible count, greatest possible count) of all pipes."""
    return find_ranges(network, checked_branches(network))


def checked_limits(network, pipe, answer):
    """Returns the bounds of all pipes if the answer, of any kind, begins with a count of the pipe and a flow with it.

    Raises the first error that applies otherwise.
    """
    branches = checked_branches(network)
    check_index(network, pipe)
    if not isinstance(answer, tuple) or len(answer) != 3:
        raise InvalidAnswer("form")
    if find_fault(network, answer[1]) is not None:
        raise InvalidAnswer("flow")
    if not is_between(answer[0], answer[1][pipe], answer[1][pipe]):
        raise InvalidAnswer("count")
    # There is a flow, so all pipes have bounds.
    return checked_bounds(network, branches)


def holds_down(network, limits, pipe, places):
    """Returns the count above which the pipe cannot come by [26], or None if the value is no such set."""
    if not is_number_set(places, network[1]) or not enters(network[2][pipe], places):
        return None
    return limits[pipe][0] - find_excess(network, limits, places)


def holds_up(network, limits, pipe, places):
    """Returns the count below which the pipe cannot come by [27], or None if the value is no such set."""
    if not is_number_set(places, network[1]) or not leaves(network[2][pipe], places):
        return None
    return limits[pipe][1] + find_excess(network, limits, places)


def check_greatest(network, pipe, answer):
    """Returns the count of the answer if it is a result that greatest_count may return."""
    limits = checked_limits(network, pipe, answer)
    count, _, places = answer
    if count != (limits[pipe][1] if places is None else holds_down(network, limits, pipe, places)):
        raise InvalidAnswer("places")
    return count


def check_least(network, pipe, answer):
    """Returns the count of the answer if it is a result that least_count may return."""
    limits = checked_limits(network, pipe, answer)
    count, _, places = answer
    if count != (limits[pipe][0] if places is None else holds_up(network, limits, pipe, places)):
        raise InvalidAnswer("places")
    return count
