"""Values that several tests share, and plain versions of the definitions to compare with."""

from itertools import product

# The example of the document.
N = (10, 3, ((0, 1, 0, 99, 5), (1, 2, 0, 9, None), (2, 0, 0, 99, 2), (1, 0, 0, 99, 3)))
# N with another meter: its groups have the sums 1 and 9.
N_OFF = (10, 3, ((0, 1, 0, 99, 5), (1, 2, 0, 9, None), (2, 0, 0, 99, 2), (1, 0, 0, 99, 4)))
# The example for excess.
N_EXCESS = (10, 4, ((0, 1, 0, 99, 5), (1, 2, 0, 9, None), (2, 3, 8, 17, None), (3, 0, 0, 99, 5)))

HUGE = 10 ** 1000 - 1


def nested(depth, make):
    """Returns the empty tuple, wrapped so many times."""
    value = ()
    for _ in range(depth):
        value = make(value)
    return value


def crowded(width):
    """Returns a value 90 levels deep with width ** 90 parts: nobody can visit them one by one."""
    return nested(90, lambda value: (value,) * width)


class Touchy:
    """An object that fails when it is compared, measured, tested, hashed, iterated over or shown."""

    def _fail(self, *others):
        raise AssertionError("a value of another kind was used")

    __eq__ = __ne__ = __lt__ = __le__ = __gt__ = __ge__ = _fail
    __len__ = __bool__ = __hash__ = __iter__ = __getitem__ = __contains__ = _fail
    __int__ = __index__ = __repr__ = __str__ = _fail


def strange_values():
    """Returns values of many kinds, new ones at every call. None of them is an integer or a tuple of integers."""
    return [
        "", "0", "1", "a" * 20000, b"", b"\x00", [], [0], [[0]], {}, {0: 1}, set(), {0, 1}, frozenset((0,)),
        None, True, False, object(), Touchy(), int, len, lambda: 0, range(2), iter((0, 1)), 1j,
        (None,), (True,), (False,), ("0",), ([0],), (Touchy(),), ((0,),), ((),),
        nested(90, lambda value: (value,)), nested(90, lambda value: [value]), nested(90, lambda value: {0: value}),
        crowded(2), crowded(3), crowded(5), [crowded(2)] * 3, {1: crowded(2)},
    ]


def draws(seed):
    """Returns a function that draws an integer from low to high, the same ones in every run."""
    state = [seed * 7919 + 1]

    def draw(low, high):
        state[0] = (state[0] * 6364136223846793005 + 1442695040888963407) & (2 ** 64 - 1)
        return low + (state[0] >> 33) % (high - low + 1)

    return draw


def plainly_open(pipe):
    return pipe[4] is None and pipe[2] < pipe[3]


def closes_ring(places, pipes):
    """Tells whether these open pipes contain a ring: every part of a ring has an end left that others lead to."""
    left = list(pipes)
    while True:
        ends = [place for pipe in left for place in pipe[:2]]
        kept = [pipe for pipe in left if ends.count(pipe[0]) > 1 and ends.count(pipe[1]) > 1]
        if len(kept) == len(left):
            return len(left) > 0
        left = kept


def drawn_network(seed):
    """Returns a network with small numbers."""
    draw = draws(seed)
    modulus, places = draw(2, 5), draw(2, 5)
    pipes = []
    for _ in range(draw(0, 6)):
        source = draw(0, places - 1)
        target = (source + draw(1, places - 1)) % places
        low = draw(0, 4)
        high = low + draw(0, 5)
        meter = draw(0, modulus - 1) if draw(0, 2) else None
        pipe = (source, target, low, high, meter)
        if closes_ring(places, [other for other in pipes + [pipe] if plainly_open(other)]):
            pipe = (source, target, low, high, draw(0, modulus - 1))
        pipes.append(pipe)
    return (modulus, places, tuple(pipes))


def flowing_network(seed):
    """Returns a network with small numbers that has a flow: its meters and limits are taken from one."""
    draw = draws(seed)
    modulus, places = draw(2, 5), draw(2, 5)
    ends, counts = [], []
    for _ in range(draw(1, 2)):
        # What goes round a closed walk enters and leaves every place of it.
        start, step, worth = draw(0, places - 1), draw(1, places - 1), draw(0, 5)
        walk = [(start + step * at) % places for at in range(draw(2, 3))]
        walk = walk if walk[-1] != start else walk[:-1]
        ends += zip(walk, walk[1:] + walk[:1])
        counts += [worth] * len(walk)
    pipes = []
    for (source, target), count in zip(ends, counts):
        low, high = max(0, count - draw(0, 7)), count + draw(0, 7)
        pipe = (source, target, low, high, None)
        if draw(0, 1) or closes_ring(places, [other for other in pipes + [pipe] if plainly_open(other)]):
            pipe = (source, target, low, high, count % modulus)
        pipes.append(pipe)
    return (modulus, places, tuple(pipes))


def all_flows(network):
    """Returns all flows of a small network, by [15]."""
    modulus, places, pipes = network
    spans = [
        [count for count in range(low, high + 1) if meter is None or count % modulus == meter]
        for _, _, low, high, meter in pipes
    ]
    return [counts for counts in product(*spans) if all(
        sum(count for count, pipe in zip(counts, pipes) if pipe[1] == place)
        == sum(count for count, pipe in zip(counts, pipes) if pipe[0] == place)
        for place in range(places)
    )]


def all_place_sets(places):
    return [
        tuple(place for place in range(places) if number >> place & 1)
        for number in range(2 ** places)
    ]


def reach(pipes, start):
    """Returns the places to which these pipes lead from the start, in any directions."""
    found = {start}
    while True:
        more = found | {pipe[1] for pipe in pipes if pipe[0] in found} | {pipe[0] for pipe in pipes if pipe[1] in found}
        if more == found:
            return found
        found = more


def plain_groups(network):
    """Returns the groups by [13]."""
    links = [pipe for pipe in network[2] if plainly_open(pipe)]
    return tuple(sorted({tuple(sorted(reach(links, place))) for place in range(network[1])}))


def plain_sum(network, members, skipped=None):
    """Returns, by [20] and [21], the residues of the pipes that enter the places minus those that leave them."""
    modulus = network[0]
    total = 0
    for index, (source, target, low, _, meter) in enumerate(network[2]):
        residue = low % modulus if meter is None else meter
        if index != skipped and target in members and source not in members:
            total += residue
        if index != skipped and source in members and target not in members:
            total -= residue
    return total % modulus


def plain_residues(network):
    """Returns the residues by [20] and [21]. The sums of all groups are 0."""
    modulus, _, pipes = network
    found = []
    for index, pipe in enumerate(pipes):
        if plainly_open(pipe):
            links = [other for at, other in enumerate(pipes) if plainly_open(other) and at != index]
            found.append(plain_sum(network, reach(links, pipe[0]), index))
        else:
            found.append(pipe[2] % modulus if pipe[4] is None else pipe[4])
    return tuple(found)


def plain_bounds(network):
    """Returns the bounds by [22], for small numbers."""
    found = []
    for pipe, residue in zip(network[2], plain_residues(network)):
        fitting = [count for count in range(pipe[2], pipe[3] + 1) if count % network[0] == residue]
        found.append((fitting[0], fitting[-1]) if fitting else None)
    return tuple(found)


def plain_excess(network, limits, places):
    """Returns the excess by [23], with these bounds."""
    total = 0
    for pipe, (least, most) in zip(network[2], limits):
        total += least * (pipe[1] in places) * (pipe[0] not in places)
        total -= most * (pipe[0] in places) * (pipe[1] not in places)
    return total


def plain_reasons(network):
    """Returns all reasons of the first kind that applies, by [20] to [23], for a small network."""
    wrong = [("sum", group) for group in plain_groups(network) if plain_sum(network, group)]
    if wrong:
        return wrong
    limits = plain_bounds(network)
    unbound = [("pipe", index) for index, pair in enumerate(limits) if pair is None]
    if unbound:
        return unbound
    return [("places", places) for places in all_place_sets(network[1]) if plain_excess(network, limits, places) > 0]


def is_plain_flow(network, counts):
    """Tells whether integers are a flow, by [15]."""
    modulus, places, pipes = network
    for count, (_, _, low, high, meter) in zip(counts, pipes):
        if not low <= count <= high or (meter is not None and count % modulus != meter):
            return False
    brought = [sum(count for count, pipe in zip(counts, pipes) if pipe[1] == place) for place in range(places)]
    taken = [sum(count for count, pipe in zip(counts, pipes) if pipe[0] == place) for place in range(places)]
    return len(counts) == len(pipes) and brought == taken


def shuffled(items, draw):
    left = list(items)
    return [left.pop(draw(0, len(left) - 1)) for _ in items]


def large_network(seed):
    """Returns a network of 24 places and 60 pipes, and a flow of it."""
    draw = draws(seed)
    modulus = (2, 3, 10, 97, 10 ** 6)[draw(0, 4)]
    spread = (0, 3 * modulus, 10 ** 9, 10 ** 12)[draw(0, 3)]
    ends, counts = [], []
    while len(ends) < 60:
        # What goes round a closed walk enters and leaves every place of it.
        walk = shuffled(range(24), draw)[:5]
        worth = draw(0, (5, 10 ** 6, 10 ** 12)[draw(0, 2)])
        ends += zip(walk, walk[1:] + walk[:1])
        counts += [worth] * 5
    pipes = []
    for (source, target), count in zip(ends, counts):
        low, high = max(0, count - draw(0, spread)), min(10 ** 12, count + draw(0, spread))
        pipe = (source, target, low, high, None)
        if draw(0, 2) or closes_ring(24, [other for other in pipes + [pipe] if plainly_open(other)]):
            pipe = (source, target, low, high, count % modulus)
        pipes.append(pipe)
    return (modulus, 24, tuple(pipes)), tuple(counts)


def overfull_network(seed):
    """Returns a network of 24 places and 60 pipes, and a set of places with an excess of the modulus.

    The set can let out just what a flow of another network brings, and one pipe has to bring more.
    """
    network, counts = large_network(seed)
    draw = draws(seed + 1000)
    modulus, _, pipes = network
    while True:
        places = tuple(sorted(shuffled(range(24), draw)[:draw(1, 23)]))
        spare = [index for index, pipe in enumerate(pipes) if pipe[1] in places and pipe[0] not in places
                 and counts[index] + modulus <= 10 ** 12]
        if spare:
            break
    more = spare[draw(0, len(spare) - 1)]
    changed = []
    for index, (source, target, low, high, meter) in enumerate(pipes):
        count = counts[index] + (modulus if index == more else 0)
        low = count if target in places and source not in places else low
        high = count if source in places and target not in places else max(high, low)
        # An open pipe that becomes closed keeps its count, and so its residue.
        changed.append((source, target, low, high, meter))
    return (modulus, 24, tuple(changed)), places


def small_networks(many):
    """Returns pairs of a small network and the ascending list of its flows, with and without flows."""
    drawn = [make(seed) for seed in range(many) for make in (drawn_network, flowing_network)]
    return [(network, sorted(all_flows(network))) for network in drawn]


def plain_loose(flows):
    """Returns the loose pipes, by [45], from the list of all flows."""
    return tuple(index for index, column in enumerate(zip(*flows)) if len(set(column)) > 1)


def is_plain_key(network, loose, pipes):
    """Tells whether the set of pipes is a key, by [45]."""
    return not closes_ring(network[1], [network[2][index] for index in loose if index not in pipes])


def all_pipe_sets(network):
    """Returns all sets of pipes of a small network."""
    many = len(network[2])
    return [tuple(index for index in range(many) if number >> index & 1) for number in range(2 ** many)]


def with_meter(network, index, meter):
    """Returns the network in which the pipe has another meter."""
    modulus, places, pipes = network
    return (modulus, places, pipes[:index] + (pipes[index][:4] + (meter,),) + pipes[index + 1:])


def crossing(chosen, many, modulus=10):
    """Returns a network in which just so many of these pipes can have the count of the modulus, the others 0."""
    pipes = tuple((0, 1, 0, modulus, 0) for _ in range(many))
    return (modulus, 2, pipes + ((1, 0, chosen * modulus, chosen * modulus, 0),))


def single_rings(many, spread):
    """Returns a network of rings of two places each, with spread + 1 flows on each of them."""
    pipes = []
    for ring in range(many):
        pipes += [(2 * ring, 2 * ring + 1, 0, 10 * spread + 9, 3), (2 * ring + 1, 2 * ring, 0, 10 ** 12, None)]
    return (10, 2 * many, tuple(pipes))


def plain_rounds(plan, readings, levels):
    """Returns the network of a plan, readings and levels, by [57]."""
    modulus, places, pipes, tanks = plan
    number = {(0, at): 0 for at in range(len(readings))}
    for at in range(len(readings)):
        for place in range(1, places):
            number[place, at] = place + at * (places - 1)
    found = []
    for at, meters in enumerate(readings):
        for (source, target, low, high), meter in zip(pipes, meters):
            found.append((number[source, at], number[target, at], low, high, meter))
    for at, (place, size) in enumerate(tanks):
        ways = [(0, number[place, 0])]
        ways += [(number[place, before], number[place, before + 1]) for before in range(len(readings) - 1)]
        ways += [(number[place, len(readings) - 1], 0)]
        for way, (source, target) in enumerate(ways):
            level = levels[0][at] if way == 0 else levels[1][at] if way == len(readings) else None
            found.append((source, target) + ((0, size) if level is None else (level, level)) + (None,))
    return (modulus, len(readings) * (places - 1) + 1, tuple(found))


def drawn_rounds(seed, rounds=3, worth=20):
    """Returns a plan, readings and levels, and the counts and the levels that they are taken from.

    Each round has counts on closed walks, and each tank a pipe from place 0 and one to it.
    """
    draw = draws(seed)
    modulus = draw(2, 2 * worth)
    places = draw(2, 4)
    walks = [shuffled(range(places), draw)[:draw(2, places)] for _ in range(draw(1, 2))]
    tanks = tuple((place, draw(0, 2 * worth)) for place in range(1, places) if draw(0, 1))
    ends = [pair for walk in walks for pair in zip(walk, walk[1:] + walk[:1])]
    ends += [pair for place, _ in tanks for pair in ((0, place), (place, 0))]
    levels = [[draw(0, size)] for _, size in tanks]
    counts = []
    for _ in range(rounds):
        row = []
        for walk in walks:
            row += [draw(0, worth)] * len(walk)
        for (_, size), told in zip(tanks, levels):
            more, after = draw(0, worth), draw(0, size)
            # Both pipes have a count, and the level changes by their difference.
            row += [more + max(0, after - told[-1]), more + max(0, told[-1] - after)]
            told.append(after)
        counts.append(tuple(row))
    spans = [(max(0, min(column) - draw(0, worth)), max(column) + draw(0, worth)) for column in zip(*counts)]
    plan = (modulus, places, tuple(pair + span for pair, span in zip(ends, spans)), tanks)
    readings, told = hidden(plan, counts, levels, draw)
    return plan, readings, told, tuple(counts), tuple(tuple(one) for one in levels)


def hidden(plan, counts, levels, draw):
    """Returns the readings and the levels without some items, but so that the open pipes contain no ring."""
    modulus = plan[0]
    readings = [[count % modulus for count in row] for row in counts]
    told = [[one[0] for one in levels], [one[-1] for one in levels]]
    for row in readings + told:
        for at, item in enumerate(row):
            row[at] = None
            network = plain_rounds(plan, readings, told)
            if draw(0, 2) or closes_ring(network[1], [pipe for pipe in network[2] if plainly_open(pipe)]):
                row[at] = item
    return tuple(tuple(row) for row in readings), tuple(tuple(row) for row in told)
