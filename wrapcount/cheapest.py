"""Cheapest flows, and the potentials that support them.

A step of a trial that raises a count weighs the reduced weight of its pipe, and a step that lowers
it weighs the negative of that. Potentials support a flow if no step with room weighs less than 0.
"""

from wrapcount.errors import InvalidAnswer, InvalidWeights
from wrapcount.flows import find_fault
from wrapcount.networks import checked_branches, enters, is_between, is_integer, leaves
from wrapcount.ranges import flowing_trial
from wrapcount.residues import checked_bounds

MAX_WEIGHT = 10 ** 6


def check_weights(network, weights, least):
    """Raises InvalidWeights if the value is not a tuple with an integer from least to MAX_WEIGHT for each pipe."""
    if not isinstance(weights, tuple) or len(weights) != len(network[2]):
        raise InvalidWeights(None)
    for position, weight in enumerate(weights):
        if not is_between(weight, least, MAX_WEIGHT):
            raise InvalidWeights(position)


def find_reduced(network, weights, potentials):
    """Returns the list of the reduced weights of all pipes."""
    return [
        weight + potentials[pipe[0]] - potentials[pipe[1]]
        for pipe, weight in zip(network[2], weights)
    ]


def find_total(weights, counts):
    """Returns the sum of the counts, each multiplied by its weight."""
    return sum([weight * count for weight, count in zip(weights, counts)])


def fill_light_steps(trial, network, reduced):
    """Takes all steps that weigh less than 0 as far as their bounds."""
    for index, weight in enumerate(reduced):
        source, target = network[2][index][:2]
        if weight < 0:
            trial.fill(2 * index, source, target)
        if weight > 0:
            trial.fill(2 * index + 1, target, source)


def lightest_way_out(trial, network, reduced, places):
    """Returns the least weight of the steps with room that lead out of the places."""
    weights = []
    for index, weight in enumerate(reduced):
        if leaves(network[2][index], places) and trial.room[2 * index] > 0:
            weights.append(weight)
        if enters(network[2][index], places) and trial.room[2 * index + 1] > 0:
            weights.append(-weight)
    return min(weights)


def support_flow(trial, network, weights, potentials):
    """Changes the counts to those of another flow, and raises potentials, until these support that flow."""
    near = trial.near
    reduced = find_reduced(network, weights, potentials)
    fill_light_steps(trial, network, reduced)
    while True:
        # Steps that weigh nothing may be taken and undone: the potentials do not forbid it.
        trial.near = [[(step, other) for step, other in steps if reduced[step // 2] == 0] for steps in near]
        places = trial.settle()
        if not places:
            trial.near = near
            return potentials
        # What is left can go nowhere else by such steps. There is a flow, so there is another way out.
        more = lightest_way_out(trial, network, reduced, places)
        potentials = [
            potential if place in places else potential + more
            for place, potential in enumerate(potentials)
        ]
        reduced = find_reduced(network, weights, potentials)


def find_potentials(trial, network, weights):
    """Changes the counts of a flow to those of a cheapest one. Returns the list of potentials that support it.

    The weights are read bit by bit. With one bit more, no step weighs less than -1 to begin with,
    and so no potential has to be raised by more than the number of places.
    """
    potentials = [0] * network[1]
    for bits in range(MAX_WEIGHT.bit_length(), -1, -1):
        rough = [weight >> bits for weight in weights]
        potentials = support_flow(trial, network, rough, [2 * potential for potential in potentials])
    return potentials


def cheapest_flow(network, weights):
    """Returns the triple of the least total of all flows, a flow with it, and potentials that support it."""
    branches = checked_branches(network)
    check_weights(network, weights, -MAX_WEIGHT)
    trial = flowing_trial(network, branches)
    potentials = find_potentials(trial, network, weights)
    flow = trial.counts()
    return (find_total(weights, flow), flow, tuple(potentials))


def is_support(network, weights, limits, flow, value):
    """Tells whether the value, of any kind, is a tuple of potentials that support the flow."""
    if not isinstance(value, tuple) or len(value) != network[1]:
        return False
    for potential in value:
        if not is_integer(potential):
            return False
    for weight, count, (least, greatest) in zip(find_reduced(network, weights, value), flow, limits):
        if weight > 0 and count != least or weight < 0 and count != greatest:
            return False
    return True


def check_cheapest(network, weights, answer):
    """Returns the total if the answer is a result that cheapest_flow may return, with potentials of any size."""
    branches = checked_branches(network)
    check_weights(network, weights, -MAX_WEIGHT)
    # Raises NoFlow before the answer is looked at.
    flowing_trial(network, branches)
    if not isinstance(answer, tuple) or len(answer) != 3:
        raise InvalidAnswer("form")
    total, flow, potentials = answer
    if find_fault(network, flow) is not None:
        raise InvalidAnswer("flow")
    if not is_support(network, weights, checked_bounds(network, branches), flow, potentials):
        raise InvalidAnswer("potentials")
    expected = find_total(weights, flow)
    if not is_between(total, expected, expected):
        raise InvalidAnswer("total")
    return total
