"""Records: networks that change over time, and the changes that can be undone."""

from wrapcount.decisions import find_decision
from wrapcount.errors import InvalidMeter, InvalidNetwork, InvalidPipe, NoFlow, NothingToUndo
from wrapcount.networks import MAX_PIPES, check_index, check_network, checked_branches, find_branches, is_between
from wrapcount.networks import is_pipe, with_meter
from wrapcount.ranges import find_ranges


def copied_pipe(pipe):
    """Returns an equal pipe: a record keeps nothing that was passed."""
    source, target, low, high, meter = pipe
    return (source, target, low, high, meter)


def ranges_or_none(network, many):
    """Returns the list of the ranges of so many pipes, with None for all that have none."""
    try:
        found = list(find_ranges(network, checked_branches(network)))
    except NoFlow:
        found = []
    return found + [None] * (many - len(found))


class Record:
    """A network that changes over time. Two records are equal if their current networks are equal."""

    def __init__(self, network):
        check_network(network)
        self.modulus, self.places, pipes = network
        self.pipes = tuple([copied_pipe(pipe) for pipe in pipes])
        # The changes that have not been undone, each with the pipes before it.
        self.past = []

    def __eq__(self, other):
        return (
            isinstance(other, Record) and self.modulus == other.modulus and self.places == other.places
            and self.pipes == other.pipes
        )

    def __len__(self):
        return len([pipe for pipe in self.pipes if pipe[4] is not None])

    def network(self):
        """Returns the current network."""
        return (self.modulus, self.places, self.pipes)

    def change_to(self, network, change):
        """Makes this the current network and records the change, unless the open pipes contain a ring."""
        _, places, pipes = network
        if find_branches(places, pipes) is None:
            raise InvalidNetwork("ring")
        self.past.append((change, self.pipes))
        self.pipes = pipes

    def add(self, pipe):
        """Adds a pipe and returns its index."""
        index = len(self.pipes)
        if index == MAX_PIPES:
            raise InvalidNetwork("pipes")
        if not is_pipe(pipe, self.modulus, self.places):
            raise InvalidPipe(index)
        added = copied_pipe(pipe)
        self.change_to((self.modulus, self.places, self.pipes + (added,)), ("add", added))
        return index

    def read(self, pipe, meter):
        """Stores a reading of the pipe in the place of the current one."""
        check_index(self.network(), pipe)
        if not is_between(meter, 0, self.modulus - 1):
            raise InvalidMeter(meter)
        self.change_to(with_meter(self.network(), pipe, meter), ("read", pipe, meter))

    def clear(self, pipe):
        """Removes the reading of the pipe."""
        check_index(self.network(), pipe)
        if self.pipes[pipe][4] is None:
            raise InvalidMeter(None)
        self.change_to(with_meter(self.network(), pipe, None), ("clear", pipe))

    def undo(self):
        """Undoes the latest change that has not been undone."""
        if len(self.past) == 0:
            raise NothingToUndo()
        _, self.pipes = self.past.pop()

    def log(self):
        """Returns the list of the changes that have not been undone, in order."""
        return [change for change, _ in self.past]

    def decide(self):
        """Returns what decide returns for the current network."""
        answer, _ = find_decision(self.network(), checked_branches(self.network()))
        return answer

    def ranges(self):
        """Returns what ranges returns for the current network."""
        return find_ranges(self.network(), checked_branches(self.network()))

    def news(self):
        """Returns the list of the triples (pipe, before, after) of all ranges that the latest change has changed."""
        if len(self.past) == 0:
            return []
        _, pipes = self.past[-1]
        many = len(self.pipes)
        before = ranges_or_none((self.modulus, self.places, pipes), many)
        after = ranges_or_none(self.network(), many)
        return [(index, before[index], after[index]) for index in range(many) if before[index] != after[index]]

    def copy(self):
        """Returns an equal record with the same recorded changes."""
        other = Record(self.network())
        other.past = list(self.past)
        return other
