"""Decisions: a flow, or a reason why there is none."""

from wrapcount.errors import InvalidAnswer
from wrapcount.flows import find_fault
from wrapcount.networks import check_network, is_between, is_place_set
from wrapcount.residues import find_bounds, find_excess, unbound_pipes, wrong_groups
from wrapcount.trials import Trial

WORDS = ("flow", "sum", "pipe", "places")


def find_decision(network):
    """Returns a flow or a reason, as decide does. The network is valid."""
    wrong = wrong_groups(network)
    if wrong:
        return ("sum", wrong[0])
    limits = find_bounds(network)
    unbound = unbound_pipes(limits)
    if unbound:
        return ("pipe", unbound[0])
    trial = Trial(network, limits, [pair[0] for pair in limits])
    # What cannot leave these places has entered them by the lower bounds, and the upper ones hold it back.
    places = trial.settle()
    if places:
        return ("places", places)
    return ("flow", trial.counts())


def decide(network):
    """Returns ("flow", flow), or the first answer that applies of those that tell why there is none."""
    check_network(network)
    return find_decision(network)


def is_wrong_group(network, value):
    """Tells whether the value, of any kind, is a group whose sum is not 0."""
    return is_place_set(value, network[1]) and value in wrong_groups(network)


def is_unbound_pipe(network, value):
    """Tells whether the value, of any kind, is the index of a pipe without bounds, and all sums are 0."""
    if not is_between(value, 0, len(network[2]) - 1) or wrong_groups(network):
        return False
    return find_bounds(network)[value] is None


def is_overfull_set(network, value):
    """Tells whether the value, of any kind, is a set of places with a positive excess, by sums and bounds that fit."""
    if not is_place_set(value, network[1]) or wrong_groups(network):
        return False
    limits = find_bounds(network)
    return not unbound_pipes(limits) and find_excess(network, limits, value) > 0


def is_correct(network, word, value):
    """Tells whether the word and the value, of any kind, are a result that decide may return."""
    if word == "flow":
        return find_fault(network, value) is None
    if word == "sum":
        return is_wrong_group(network, value)
    if word == "pipe":
        return is_unbound_pipe(network, value)
    return is_overfull_set(network, value)


def check_decision(network, answer):
    """Returns the first item of the answer if it is a result that decide may return."""
    check_network(network)
    if not isinstance(answer, tuple) or len(answer) != 2:
        raise InvalidAnswer("form")
    word, value = answer
    if not isinstance(word, str) or word not in WORDS:
        raise InvalidAnswer("form")
    if not is_correct(network, word, value):
        raise InvalidAnswer(word)
    return word
