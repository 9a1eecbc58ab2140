"""Networks: their form, their open pipes, their groups and sets of places."""

from wrapcount.errors import InvalidNetwork, InvalidPipe, InvalidPlaces

MAX_MODULUS = 10 ** 6
MAX_PLACES = 24
MAX_PIPES = 60
MAX_COUNT = 10 ** 12


def is_between(value, low, high):
    """Tells whether the value, of any kind, is an integer from low to high."""
    return isinstance(value, int) and not isinstance(value, bool) and low <= value <= high


def is_pipe(value, modulus, places):
    """Tells whether the value, of any kind, is a pipe."""
    if not isinstance(value, tuple) or len(value) != 5:
        return False
    source, target, low, high, meter = value
    return (
        is_between(source, 0, places - 1)
        and is_between(target, 0, places - 1)
        and source != target
        and is_between(high, 0, MAX_COUNT)
        and is_between(low, 0, high)
        and (meter is None or is_between(meter, 0, modulus - 1))
    )


def is_open_pipe(pipe):
    """Tells whether a valid pipe is open."""
    return pipe[4] is None and pipe[2] < pipe[3]


def open_neighbours(places, pipes):
    """Returns for each place the pairs (index, other place) of its open pipes."""
    near = [[] for _ in range(places)]
    for index, pipe in enumerate(pipes):
        if is_open_pipe(pipe):
            near[pipe[0]].append((index, pipe[1]))
            near[pipe[1]].append((index, pipe[0]))
    return near


def joined_places(near, start, skipped=None):
    """Returns, ascending, what open pipes other than the skipped one join to the start."""
    joined = {start: True}
    waiting = [start]
    while waiting:
        place = waiting.pop()
        for index, other in near[place]:
            if index != skipped and other not in joined:
                joined[other] = True
                waiting.append(other)
    return tuple(sorted(joined))


def find_groups(places, pipes):
    """Returns the ascending tuple of all groups."""
    near = open_neighbours(places, pipes)
    found = []
    seen = {}
    for place in range(places):
        if place not in seen:
            group = joined_places(near, place)
            found.append(group)
            for member in group:
                seen[member] = True
    return tuple(found)


def has_ring(places, pipes):
    """Tells whether the open pipes contain a ring."""
    # An open pipe that closes no ring makes one group of two, any other one changes no group.
    joins = places - len(find_groups(places, pipes))
    return joins < len([pipe for pipe in pipes if is_open_pipe(pipe)])


def check_network(value):
    """Returns None if the value is a network, and raises the first error that applies otherwise."""
    if not isinstance(value, tuple) or len(value) != 3:
        raise InvalidNetwork("form")
    modulus, places, pipes = value
    if not is_between(modulus, 2, MAX_MODULUS):
        raise InvalidNetwork("modulus")
    if not is_between(places, 1, MAX_PLACES):
        raise InvalidNetwork("places")
    if not isinstance(pipes, tuple) or len(pipes) > MAX_PIPES:
        raise InvalidNetwork("pipes")
    for index, pipe in enumerate(pipes):
        if not is_pipe(pipe, modulus, places):
            raise InvalidPipe(index)
    if has_ring(places, pipes):
        raise InvalidNetwork("ring")


def is_network(value):
    """Tells whether the value, of any kind, is a network."""
    try:
        check_network(value)
    except (InvalidNetwork, InvalidPipe):
        return False
    return True


def check_index(network, pipe):
    """Raises InvalidPipe if the value is not the index of a pipe of the network."""
    if not is_between(pipe, 0, len(network[2]) - 1):
        raise InvalidPipe(pipe)


def is_place_set(value, places):
    """Tells whether the value, of any kind, is a set of places."""
    if not isinstance(value, tuple):
        return False
    least = 0
    for place in value:
        if not is_between(place, least, places - 1):
            return False
        least = place + 1
    return True


def check_places(network, places):
    """Raises InvalidPlaces if the value is not a set of places of the network."""
    if not is_place_set(places, network[1]):
        raise InvalidPlaces(places)


def is_open(network, pipe):
    """Tells whether the pipe with this index is open."""
    check_network(network)
    check_index(network, pipe)
    return is_open_pipe(network[2][pipe])


def open_pipes(network):
    """Returns the ascending tuple of the indexes of all open pipes."""
    check_network(network)
    return tuple([index for index, pipe in enumerate(network[2]) if is_open_pipe(pipe)])


def groups(network):
    """Returns the ascending tuple of all groups."""
    check_network(network)
    return find_groups(network[1], network[2])


def enters(pipe, places):
    """Tells whether the pipe enters the set of places."""
    return pipe[1] in places and pipe[0] not in places


def leaves(pipe, places):
    """Tells whether the pipe leaves the set of places."""
    return pipe[0] in places and pipe[1] not in places


def place_balances(network, counts):
    """Returns for each place what its pipes bring with these counts minus what they take."""
    balances = [0] * network[1]
    for pipe, count in zip(network[2], counts):
        balances[pipe[1]] += count
        balances[pipe[0]] -= count
    return balances


def entering(network, places):
    """Returns the ascending tuple of the indexes of the pipes that enter the set of places."""
    check_network(network)
    check_places(network, places)
    return tuple([index for index, pipe in enumerate(network[2]) if enters(pipe, places)])


def leaving(network, places):
    """Returns the ascending tuple of the indexes of the pipes that leave the set of places."""
    check_network(network)
    check_places(network, places)
    return tuple([index for index, pipe in enumerate(network[2]) if leaves(pipe, places)])
