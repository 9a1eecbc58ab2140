"""Rounds: the flows of a plan over several rounds, between which its tanks keep what they hold."""

from wrapcount.decisions import find_decision
from wrapcount.errors import InvalidLevels, InvalidPlan, InvalidReadings
from wrapcount.networks import MAX_COUNT, MAX_MODULUS, MAX_PIPES, MAX_PLACES, checked_branches, is_between, is_pipe


def is_plan_pipe(value, modulus, places):
    """Tells whether the value, of any kind, is a pipe of a plan."""
    return isinstance(value, tuple) and is_pipe(value + (None,), modulus, places)


def is_tank(value, least, places):
    """Tells whether the value, of any kind, is a tank whose place is not less than the least one."""
    return (
        isinstance(value, tuple) and len(value) == 2
        and is_between(value[0], least, places - 1) and is_between(value[1], 0, MAX_COUNT)
    )


def check_plan(plan):
    """Raises InvalidPlan if the value, of any kind, is not a plan."""
    if not isinstance(plan, tuple) or len(plan) != 4:
        raise InvalidPlan("form")
    modulus, places, pipes, tanks = plan
    if not is_between(modulus, 2, MAX_MODULUS):
        raise InvalidPlan("modulus")
    if not is_between(places, 1, MAX_PLACES):
        raise InvalidPlan("places")
    if not isinstance(pipes, tuple) or len(pipes) > MAX_PIPES:
        raise InvalidPlan("pipes")
    for index, pipe in enumerate(pipes):
        if not is_plan_pipe(pipe, modulus, places):
            raise InvalidPlan("pipes", index)
    if not isinstance(tanks, tuple):
        raise InvalidPlan("tanks")
    least = 1
    for index, tank in enumerate(tanks):
        if not is_tank(tank, least, places):
            raise InvalidPlan("tanks", index)
        least = tank[0] + 1


def check_readings(plan, readings):
    """Raises InvalidReadings if the value, of any kind, is not a tuple of rounds for the plan."""
    modulus, _, pipes, _ = plan
    if not isinstance(readings, tuple) or len(readings) == 0:
        raise InvalidReadings(None)
    for index, meters in enumerate(readings):
        if not isinstance(meters, tuple) or len(meters) != len(pipes):
            raise InvalidReadings(index)
        for pipe, meter in enumerate(meters):
            if meter is not None and not is_between(meter, 0, modulus - 1):
                raise InvalidReadings(index, pipe)


def check_levels(plan, levels):
    """Raises InvalidLevels if the value, of any kind, is not a pair of levels for the plan."""
    tanks = plan[3]
    if not isinstance(levels, tuple) or len(levels) != 2:
        raise InvalidLevels("form")
    for part, told in zip(("first", "last"), levels):
        if not isinstance(told, tuple) or len(told) != len(tanks):
            raise InvalidLevels(part)
        for tank, level in enumerate(told):
            if level is not None and not is_between(level, 0, tanks[tank][1]):
                raise InvalidLevels(part, tank)


def place_in_round(place, number, places):
    """Returns the place of the network that a place of the plan is in the round with this index."""
    return place + number * (places - 1) if place > 0 else 0


def round_pipes(plan, number, meters):
    """Returns the list of the pipes of the plan, in the round with this index."""
    _, places, pipes, _ = plan
    return [
        (place_in_round(source, number, places), place_in_round(target, number, places), low, high, meter)
        for (source, target, low, high), meter in zip(pipes, meters)
    ]


def tank_pipes(size, stops, first, last):
    """Returns the list of the pipes of a tank. The stops are its places in all rounds. A level may be None."""
    spans = [(0, size)] * (len(stops) + 1)
    if first is not None:
        spans[0] = (first, first)
    if last is not None:
        spans[-1] = (last, last)
    return [
        (source, target, low, high, None)
        for source, target, (low, high) in zip([0] + stops, stops + [0], spans)
    ]


def join_rounds(plan, readings, levels):
    """Returns the network of a plan, readings and levels, which may have too many places or pipes, or a ring."""
    modulus, places, _, tanks = plan
    pipes = []
    for number, meters in enumerate(readings):
        pipes += round_pipes(plan, number, meters)
    for (place, size), first, last in zip(tanks, levels[0], levels[1]):
        stops = [place_in_round(place, number, places) for number in range(len(readings))]
        pipes += tank_pipes(size, stops, first, last)
    return (modulus, 1 + len(readings) * (places - 1), tuple(pipes))


def checked_rounds(plan, readings, levels):
    """Returns the network of a plan, readings and levels and its branches, and raises the first error that applies."""
    check_plan(plan)
    check_readings(plan, readings)
    check_levels(plan, levels)
    network = join_rounds(plan, readings, levels)
    return network, checked_branches(network)


def rounds_network(plan, readings, levels):
    """Returns the network of a plan, readings and levels."""
    network, _ = checked_rounds(plan, readings, levels)
    return network


def decide_rounds(plan, readings, levels):
    """Returns ("flow", counts, levels) with the counts of each round and the levels of each tank.

    Returns what decide returns for the network if there is no flow.
    """
    network, branches = checked_rounds(plan, readings, levels)
    answer, trial = find_decision(network, branches)
    if trial is None:
        return answer
    flow = answer[1]
    rounds, many = len(readings), len(plan[2])
    counts = [flow[number * many:(number + 1) * many] for number in range(rounds)]
    # Behind the counts of all rounds stand those of the pipes of the tanks.
    kept = [flow[start:start + rounds + 1] for start in range(rounds * many, len(flow), rounds + 1)]
    return ("flow", tuple(counts), tuple(kept))
