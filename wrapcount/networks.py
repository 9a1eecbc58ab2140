"""Networks: their form, their open pipes, their groups and sets of places."""

from wrapcount.errors import InvalidNetwork, InvalidPipe, InvalidPlaces

MAX_MODULUS = 10 ** 6
MAX_PLACES = 24
MAX_PIPES = 60
MAX_COUNT = 10 ** 12


def is_integer(value):
    """Tells whether the value, of any kind, is an integer."""
    return isinstance(value, int) and value is not True and value is not False


def is_between(value, low, high):
    """Tells whether the value, of any kind, is an integer from low to high."""
    return is_integer(value) and low <= value <= high


def is_pipe(value, modulus, places):
    """Tells whether the value, of any kind, is a pipe."""
    if not isinstance(value, tuple) or len(value) != 5:
        return False
    source, target, low, high, meter = value
    # Every call looks at every pipe: here, is_between would take longer than all the rest.
    return (
        isinstance(source, int) and source is not True and source is not False
        and isinstance(target, int) and target is not True and target is not False
        and isinstance(low, int) and low is not True and low is not False
        and isinstance(high, int) and high is not True and high is not False
        and 0 <= source < places and 0 <= target < places and source != target
        and 0 <= low <= high <= MAX_COUNT
        and (meter is None or isinstance(meter, int) and meter is not True and meter is not False
             and 0 <= meter < modulus)
    )


def is_open_pipe(pipe):
    """Tells whether a valid pipe is open."""
    return pipe[4] is None and pipe[2] < pipe[3]


def find_branches(places, pipes):
    """Returns the triples (index, place, other) of all open pipes and their ends, or None if they contain a ring.

    No open pipe behind a triple in the list touches its place: all that is joined to the rest of
    the group by this pipe alone stands before it.
    """
    many = [0] * places
    # The sum of the indexes of the open pipes of each place. If there is only one, it is its index.
    links = [0] * places
    count = 0
    for index, (source, target, low, high, meter) in enumerate(pipes):
        if meter is None and low < high:
            count += 1
            many[source] += 1
            many[target] += 1
            links[source] += index
            links[target] += index
    branches = []
    for place in range(places):
        # Taking away the only open pipe of a place may leave its other end with only one.
        end = place
        while many[end] == 1:
            index = links[end]
            pipe = pipes[index]
            other = pipe[1] if end == pipe[0] else pipe[0]
            branches.append((index, end, other))
            many[end] = 0
            many[other] -= 1
            links[other] -= index
            end = other
    # In a ring no place is ever left with only one.
    return branches if len(branches) == count else None


def find_groups(places, branches):
    """Returns the ascending tuple of all groups."""
    # The place at which all branches of a group end stands for the group.
    stems = list(range(places))
    for _, place, other in reversed(branches):
        stems[place] = stems[other]
    members = {}
    for place, stem in enumerate(stems):
        members.setdefault(stem, []).append(place)
    return tuple([tuple(group) for group in members.values()])


def checked_branches(value):
    """Returns the branches of the value if it is a network, and raises the first error that applies otherwise."""
    if not isinstance(value, tuple) or len(value) != 3:
        raise InvalidNetwork("form")
    modulus, places, pipes = value
    if not is_between(modulus, 2, MAX_MODULUS):
        raise InvalidNetwork("modulus")
    if not is_between(places, 1, MAX_PLACES):
        raise InvalidNetwork("places")
    if not isinstance(pipes, tuple) or len(pipes) > MAX_PIPES:
        raise InvalidNetwork("pipes")
    for index, pipe in enumerate(pipes):
        if not is_pipe(pipe, modulus, places):
            raise InvalidPipe(index)
    branches = find_branches(places, pipes)
    if branches is None:
        raise InvalidNetwork("ring")
    return branches


def check_network(value):
    """Returns None if the value is a network, and raises the first error that applies otherwise."""
    checked_branches(value)


def is_network(value):
    """Tells whether the value, of any kind, is a network."""
    try:
        check_network(value)
    except (InvalidNetwork, InvalidPipe):
        return False
    return True


def check_index(network, pipe):
    """Raises InvalidPipe if the value is not the index of a pipe of the network."""
    if not is_between(pipe, 0, len(network[2]) - 1):
        raise InvalidPipe(pipe)


def with_meter(network, index, meter):
    """Returns the network in which the pipe has this meter."""
    modulus, places, pipes = network
    pipe = pipes[index][:4] + (meter,)
    return (modulus, places, pipes[:index] + (pipe,) + pipes[index + 1:])


def is_number_set(value, end):
    """Tells whether the value, of any kind, is an ascending tuple of numbers from 0 to end - 1 without duplicates."""
    if not isinstance(value, tuple):
        return False
    least = 0
    for number in value:
        if not is_between(number, least, end - 1):
            return False
        least = number + 1
    return True


def check_places(network, places):
    """Raises InvalidPlaces if the value is not a set of places of the network."""
    if not is_number_set(places, network[1]):
        raise InvalidPlaces(places)


def is_open(network, pipe):
    """Tells whether the pipe with this index is open."""
    check_network(network)
    check_index(network, pipe)
    return is_open_pipe(network[2][pipe])


def open_pipes(network):
    """Returns the ascending tuple of the indexes of all open pipes."""
    check_network(network)
    return tuple([index for index, pipe in enumerate(network[2]) if is_open_pipe(pipe)])


def groups(network):
    """Returns the ascending tuple of all groups."""
    branches = checked_branches(network)
    return find_groups(network[1], branches)


def enters(pipe, places):
    """Tells whether the pipe enters the set of places."""
    return pipe[1] in places and pipe[0] not in places


def leaves(pipe, places):
    """Tells whether the pipe leaves the set of places."""
    return pipe[0] in places and pipe[1] not in places


def place_balances(network, counts):
    """Returns for each place what its pipes bring with these counts minus what they take."""
    balances = [0] * network[1]
    for pipe, count in zip(network[2], counts):
        balances[pipe[1]] += count
        balances[pipe[0]] -= count
    return balances


def entering(network, places):
    """Returns the ascending tuple of the indexes of the pipes that enter the set of places."""
    check_network(network)
    check_places(network, places)
    return tuple([index for index, pipe in enumerate(network[2]) if enters(pipe, places)])


def leaving(network, places):
    """Returns the ascending tuple of the indexes of the pipes that leave the set of places."""
    check_network(network)
    check_places(network, places)
    return tuple([index for index, pipe in enumerate(network[2]) if leaves(pipe, places)])
