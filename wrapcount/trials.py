"""Trials: counts within the bounds of all pipes, and the paths along which they can be changed.

The step 2 * i raises the count of the pipe i and leads from its source to its target.
The step 2 * i + 1 lowers it and leads back. So step ^ 1 undoes a step.
"""

from wrapcount.networks import place_balances


def path_to(came, end):
    """Returns the place where the path to the end starts, and its steps."""
    place = end
    steps = []
    while came[place] is not None:
        step, place = came[place]
        steps.append(step)
    return place, steps


class Trial:
    """Counts within the bounds of all pipes. The places need not balance."""

    def __init__(self, network, limits, counts):
        self.least = [pair[0] for pair in limits]
        self.room = []
        self.near = [[] for _ in range(network[1])]
        self.balances = place_balances(network, counts)
        for index, pipe in enumerate(network[2]):
            self.room.append(limits[index][1] - counts[index])
            self.room.append(counts[index] - limits[index][0])
            self.near[pipe[0]].append((2 * index, pipe[1]))
            self.near[pipe[1]].append((2 * index + 1, pipe[0]))

    def counts(self):
        """Returns the tuple of the counts of all pipes."""
        return tuple([least + room for least, room in zip(self.least, self.room[1::2])])

    def count_of(self, pipe):
        """Returns the count of the pipe with this index."""
        return self.least[pipe] + self.room[2 * pipe + 1]

    def search(self, starts, ends):
        """Follows steps that have room. Returns the first of the ends that is reached, and how places were reached.

        The first item is None if no end is reached: then the keys of the second one are all places that are.
        """
        came = {start: None for start in starts}
        last = list(starts)
        while last:
            reached = []
            for place in last:
                for step, other in self.near[place]:
                    if self.room[step] > 0 and other not in came:
                        came[other] = (step, place)
                        if other in ends:
                            return other, came
                        reached.append(other)
            last = reached
        return None, came

    def push(self, steps, most):
        """Takes all steps by the same amount, the greatest one that is possible. Returns the amount."""
        amount = min([most] + [self.room[step] for step in steps])
        for step in steps:
            self.room[step] -= amount
            self.room[step ^ 1] += amount
        return amount

    def fill(self, step, start, end):
        """Takes a step that leads from the start to the end as far as its bound, whether or not they balance then."""
        amount = self.push([step], self.room[step])
        self.balances[start] -= amount
        self.balances[end] += amount

    def settle(self):
        """Moves what is too much at places to where it is missing, as far as that is possible.

        Returns the ascending tuple of the places that what is left can reach.
        """
        left = self.balances
        while True:
            starts = [place for place, balance in enumerate(left) if balance > 0]
            ends = [place for place, balance in enumerate(left) if balance < 0]
            end, came = self.search(starts, ends)
            if end is None:
                return tuple(sorted(came))
            start, steps = path_to(came, end)
            amount = self.push(steps, min(left[start], -left[end]))
            left[start] -= amount
            left[end] += amount

    def exhaust(self, step, start, end, most):
        """Takes a step that leads from the end to the start so many times, or as far as others can lead back.

        Returns None if it was taken so many times, and otherwise the ascending tuple of the places
        that are reached from the start.
        """
        room = self.room
        ahead, back = room[step], room[step ^ 1]
        # The way back does not use the pipe itself.
        room[step] = room[step ^ 1] = 0
        places = None
        done = 0
        while done < most and places is None:
            found, came = self.search([start], [end])
            if found is None:
                places = tuple(sorted(came))
            else:
                done += self.push(path_to(came, end)[1], most - done)
        room[step] = ahead - done
        room[step ^ 1] = back + done
        return places

    def hold(self, pipe):
        """Keeps the count of the pipe from being changed. Returns what is needed to let it go."""
        kept = (self.least[pipe], self.room[2 * pipe], self.room[2 * pipe + 1])
        self.least[pipe] = self.count_of(pipe)
        self.room[2 * pipe] = self.room[2 * pipe + 1] = 0
        return kept

    def let_go(self, pipe, kept):
        """Lets the count of a pipe that is held be changed again."""
        self.least[pipe], self.room[2 * pipe], self.room[2 * pipe + 1] = kept
