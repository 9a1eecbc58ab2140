"""Decisions: a flow, or a reason why there is none."""

from wrapcount.errors import GroupSum, InvalidAnswer, NoCount
from wrapcount.flows import find_fault
from wrapcount.networks import checked_branches, is_between, is_number_set
from wrapcount.residues import checked_bounds, checked_residues, find_bounds, find_excess, find_sums, read_meters
from wrapcount.trials import Trial

WORDS = ("flow", "sum", "pipe", "places")


def find_decision(network, branches):
    """Returns what decide returns, and a trial whose counts are a flow, or None if there is none."""
    try:
        limits = checked_bounds(network, branches)
    except GroupSum as wrong:
        return ("sum", wrong.group), None
    except NoCount as missing:
        return ("pipe", missing.pipe), None
    trial = Trial(network, limits, [pair[0] for pair in limits])
    # What cannot leave these places enters them by the lower bounds, and the upper bounds hold it back.
    places = trial.settle()
    if places:
        return ("places", places), None
    return ("flow", trial.counts()), trial


def decide(network):
    """Returns ("flow", flow), or the first answer that applies of those that tell why there is none."""
    answer, _ = find_decision(network, checked_branches(network))
    return answer


def is_wrong_group(network, branches, value):
    """Tells whether the value, of any kind, is a group whose sum is not 0."""
    if not is_number_set(value, network[1]):
        return False
    _, left = read_meters(network, branches)
    return value in [group for group, total in find_sums(network, branches, left) if total != 0]


def is_unbound_pipe(network, branches, value):
    """Tells whether all sums are 0 and the value, of any kind, is the index of a pipe without bounds."""
    if not is_between(value, 0, len(network[2]) - 1):
        return False
    try:
        known = checked_residues(network, branches)
    except GroupSum:
        return False
    return find_bounds(network, known)[value] is None


def is_overfull_set(network, branches, value):
    """Tells whether all sums are 0, all pipes have bounds, and the value, of any kind, has a positive excess."""
    if not is_number_set(value, network[1]):
        return False
    try:
        limits = checked_bounds(network, branches)
    except (GroupSum, NoCount):
        return False
    return find_excess(network, limits, value) > 0


def is_correct(network, branches, word, value):
    """Tells whether the word and the value, of any kind, are a result that decide may return."""
    if word == "flow":
        return find_fault(network, value) is None
    if word == "sum":
        return is_wrong_group(network, branches, value)
    if word == "pipe":
        return is_unbound_pipe(network, branches, value)
    return is_overfull_set(network, branches, value)


def check_decision(network, answer):
    """Returns the first item of the answer if it is a result that decide may return."""
    branches = checked_branches(network)
    if not isinstance(answer, tuple) or len(answer) != 2:
        raise InvalidAnswer("form")
    word, value = answer
    if not isinstance(word, str) or word not in WORDS:
        raise InvalidAnswer("form")
    if not is_correct(network, branches, word, value):
        raise InvalidAnswer(word)
    return word
