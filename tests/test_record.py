"""Tests of wrapcount.record: point 60, and the errors of its methods."""

import unittest

from tests.samples import HUGE, N, N_EXCESS, N_OFF, Touchy, closes_ring, crowded, drawn_network, draws, flowing_network
from tests.samples import large_network, nested, plainly_open, single_rings, strange_values
from wrapcount.decisions import check_decision, decide
from wrapcount.errors import InvalidMeter, InvalidNetwork, InvalidPipe, NoFlow, NothingToUndo, WrapcountError
from wrapcount.networks import is_network
from wrapcount.ranges import ranges
from wrapcount.record import Record

TOP = 10 ** 12
EMPTY = (10, 3, ())
OPEN = (0, 1, 0, 99, None)
FULL = (10, 2, ((0, 1, 0, 99, 5), (1, 0, 0, 99, 5)) * 30)


def plain_ranges(network, many):
    """Returns the ranges of so many pipes, with None for those that have none."""
    try:
        found = list(ranges(network))
    except NoFlow:
        found = []
    return found + [None] * (many - len(found))


def plain_news(before, after):
    """Returns the news of a change from one network to another, which may have one more pipe."""
    many = len(after[2])
    rows = list(zip(range(many), plain_ranges(before, many), plain_ranges(after, many)))
    return [row for row in rows if row[1] != row[2]]


class Model:
    """What a record has to be, by its definition: all networks that it has been."""

    def __init__(self, network):
        self.networks = [network]
        self.changes = []

    def change(self, told, pipes):
        modulus, places, _ = self.networks[-1]
        self.networks.append((modulus, places, tuple(pipes)))
        self.changes.append(told)

    def read(self, pipe, meter, told):
        pipes = list(self.networks[-1][2])
        pipes[pipe] = pipes[pipe][:4] + (meter,)
        self.change(told, pipes)

    def undo(self):
        self.networks.pop()
        self.changes.pop()


class Records(unittest.TestCase):
    def assertIsModel(self, record, model, deep=True):
        """Asserts that the record is what it has to be."""
        network = model.networks[-1]
        self.assertEqual(record.network(), network)
        self.assertIs(is_network(record.network()), True)
        self.assertEqual(record.log(), model.changes)
        self.assertEqual(len(record), sum(pipe[4] is not None for pipe in network[2]))
        self.assertTrue(record == Record(network))
        if deep:
            answer = record.decide()
            self.assertEqual(check_decision(network, answer), answer[0])
            self.assertEqual(answer, decide(network))
            if answer[0] == "flow":
                self.assertEqual(record.ranges(), ranges(network))
            else:
                with self.assertRaises(NoFlow) as caught:
                    record.ranges()
                self.assertEqual(check_decision(network, caught.exception.reason), answer[0])
            expected = plain_news(*model.networks[-2:]) if len(model.networks) > 1 else []
            self.assertEqual(record.news(), expected)

    def assertFails(self, call, error, *fields):
        with self.assertRaises(WrapcountError) as caught:
            call()
        self.assertIs(type(caught.exception), error)
        found = list(vars(caught.exception).values())
        self.assertEqual(len(found), len(fields))
        for field, expected in zip(found, fields):
            self.assertIs(field, expected)


class Changes(Records):
    def test_ordinary(self):
        record = Record(N)
        self.assertIs(record.read(3, 4), None)
        self.assertEqual(record.decide()[0], "sum")
        self.assertEqual(record.network(), N_OFF)
        self.assertEqual(record.news(), [(0, (5, 95), None), (1, (2, 2), None), (2, (2, 2), None), (3, (3, 93), None)])
        self.assertIs(record.clear(0), None)
        self.assertEqual(record.network()[2][0], (0, 1, 0, 99, None))
        self.assertEqual(record.add((2, 1, 0, 9, 1)), 4)
        self.assertEqual(record.log(), [("read", 3, 4), ("clear", 0), ("add", (2, 1, 0, 9, 1))])
        for _ in range(3):
            self.assertIs(record.undo(), None)
        self.assertEqual((record.network(), record.log(), record.news()), (N, [], []))

    def test_every_network(self):
        networks = [N, N_OFF, N_EXCESS, EMPTY, (2, 1, ()), (10 ** 6, 24, ()), FULL, single_rings(8, 3)]
        networks += [drawn_network(seed) for seed in range(30)] + [large_network(seed)[0] for seed in range(3)]
        for network in networks:
            self.assertIsModel(Record(network), Model(network))

    def test_add_up_to_60_pipes(self):
        record, model = Record((10, 2, ())), Model((10, 2, ()))
        for index, pipe in enumerate(FULL[2]):
            self.assertEqual(record.add(pipe), index)
            model.change(("add", pipe), model.networks[-1][2] + (pipe,))
        self.assertIsModel(record, model)
        for pipe in ((0, 1, 0, 99, 5), None, crowded(5), Touchy()):
            self.assertFails(lambda: record.add(pipe), InvalidNetwork, "pipes")
        self.assertIsModel(record, model)
        for _ in range(60):
            record.undo()
        self.assertEqual(record, Record((10, 2, ())))
        self.assertFails(record.undo, NothingToUndo)

    def test_add_a_pipe_that_closes_a_ring(self):
        record = Record(EMPTY)
        for index, pipe in enumerate((OPEN, (2, 1, 0, 9, None), (0, 1, 5, 5, None), (2, 0, 0, 9, 3))):
            self.assertEqual(record.add(pipe), index)
        for pipe in (OPEN, (1, 0, 0, 9, None), (2, 0, 0, 9, None), (1, 2, 5, 6, None)):
            self.assertFails(lambda: record.add(pipe), InvalidNetwork, "ring")
        self.assertEqual(len(record.log()), 4)
        self.assertEqual(record.add((2, 0, 7, 7, None)), 4)

    def test_add_what_is_no_pipe(self):
        wrong = [(), OPEN[:4], OPEN + (None,), list(OPEN), (0, 0, 0, 9, 1), (0, 3, 0, 9, 1), (3, 0, 0, 9, 1),
                 (-1, 0, 0, 9, 1), (0, 1, 9, 8, 1), (0, 1, -1, 8, 1), (0, 1, 0, TOP + 1, 1), (0, 1, 0, 9, 10),
                 (0, 1, 0, 9, -1), (0, 1, 0, 9, True), (False, 1, 0, 9, 1), (0, 1, 0, HUGE, 1), (0, 1, 0, 9, "1"), 0]
        for many in (0, 2, 59):
            record = Record((10, 3, FULL[2][:many]))
            for pipe in wrong + strange_values():
                with self.assertRaises(InvalidPipe) as caught:
                    record.add(pipe)
                self.assertEqual(caught.exception.index, many)
            for value in strange_values():
                for at in range(5):
                    if at != 4 or value is not None:
                        pipe = (0, 1, 0, 9, 1)[:at] + (value,) + (0, 1, 0, 9, 1)[at + 1:]
                        self.assertRaises(InvalidPipe, record.add, pipe)
            self.assertEqual((record.network(), record.log()), ((10, 3, FULL[2][:many]), []))

    def test_read(self):
        record, model = Record(N), Model(N)
        for pipe, meter in ((0, 7), (0, 7), (1, 3), (0, 5), (3, 0), (1, 9), (2, 2)):
            self.assertIs(record.read(pipe, meter), None)
            model.read(pipe, meter, ("read", pipe, meter))
            self.assertIsModel(record, model)
        while model.changes:
            record.undo()
            model.undo()
            self.assertIsModel(record, model)
        # A reading that was read before is read again, and is a change.
        record.read(0, 5)
        self.assertEqual((record.network(), record.log(), record.news()), (N, [("read", 0, 5)], []))

    def test_wrong_pipes_and_meters(self):
        for network in (N, N_OFF, EMPTY, (2, 2, (OPEN,))):
            record = Record(network)
            for value in strange_values() + [-1, len(network[2]), HUGE, -HUGE, (0,)]:
                for meter in (1, None, value, HUGE):
                    self.assertFails(lambda: record.read(value, meter), InvalidPipe, value)
                self.assertFails(lambda: record.clear(value), InvalidPipe, value)
            for meter in strange_values() + [-1, network[0], network[0] + 1, HUGE, -HUGE, (1,)]:
                for pipe in range(len(network[2])):
                    self.assertFails(lambda: record.read(pipe, meter), InvalidMeter, meter)
            self.assertEqual((record.network(), record.log()), (network, []))

    def test_clear(self):
        record, model = Record(N), Model(N)
        self.assertFails(lambda: record.clear(1), InvalidMeter, None)
        record.clear(2)
        model.read(2, None, ("clear", 2))
        self.assertIsModel(record, model)
        for pipe in (0, 3):
            self.assertFails(lambda: record.clear(pipe), InvalidNetwork, "ring")
        for pipe in (1, 2):
            self.assertFails(lambda: record.clear(pipe), InvalidMeter, None)
        record.read(1, 2)
        model.read(1, 2, ("read", 1, 2))
        self.assertIs(record.clear(0), None)
        model.read(0, None, ("clear", 0))
        self.assertIsModel(record, model)
        self.assertFails(lambda: record.clear(3), InvalidNetwork, "ring")
        self.assertIsModel(record, model)

    def test_clear_a_pipe_with_one_possible_count(self):
        # It is closed without a meter, too.
        record = Record((10, 2, ((0, 1, 5, 5, 5), (0, 1, 0, 9, None), (1, 0, 5, 5, 4))))
        for pipe in (0, 2):
            record.clear(pipe)
        self.assertEqual(len(record), 0)
        self.assertEqual(record.decide(), ("flow", (5, 0, 5)))
        for pipe in (0, 1, 2):
            self.assertFails(lambda: record.clear(pipe), InvalidMeter, None)

    def test_undo_down_to_the_beginning_and_once_more(self):
        record = Record(N)
        self.assertFails(record.undo, NothingToUndo)
        record.read(0, 6)
        record.clear(2)
        record.add((0, 2, 0, 9, 1))
        networks = []
        while record.log():
            networks.append(record.network())
            record.undo()
        self.assertEqual([len(network[2]) for network in networks], [5, 4, 4])
        self.assertEqual(record.network(), N)
        for _ in range(2):
            self.assertFails(record.undo, NothingToUndo)
        self.assertEqual((record.network(), record.log()), (N, []))
        # What was undone is gone.
        record.read(1, 2)
        self.assertEqual(record.log(), [("read", 1, 2)])

    def test_calls_that_raise_change_nothing(self):
        record, model = Record(N), Model(N)
        record.read(0, 7)
        model.read(0, 7, ("read", 0, 7))
        for call in (lambda: record.add((1, 2, 0, 9, None)), lambda: record.add(None), lambda: record.read(4, 0),
                     lambda: record.read(0, 10), lambda: record.clear(1), lambda: record.clear(-1)):
            self.assertRaises(WrapcountError, call)
            self.assertIsModel(record, model)

    def test_drawn_changes(self):
        seen = {}
        for seed in range(60):
            draw = draws(seed)
            network = (drawn_network, flowing_network)[seed % 2](seed)
            record, model = Record(network), Model(network)
            for _ in range(12):
                done = self.draw_change(record, model, draw)
                seen[done] = seen.get(done, 0) + 1
                self.assertIsModel(record, model, deep=draw(0, 3) == 0)
            while model.changes:
                record.undo()
                model.undo()
                self.assertIsModel(record, model, deep=False)
            self.assertFails(record.undo, NothingToUndo)
        self.assertGreater(min(seen[kind] for kind in ("add", "read", "clear", "undo", "ring", "meter", "none")), 15)

    def draw_change(self, record, model, draw):
        """Makes one change to the record and to the model. Returns what has come of it."""
        modulus, places, pipes = model.networks[-1]
        kind = draw(0, 4)
        if kind == 0:
            source = draw(0, places - 1)
            low = draw(0, 5)
            pipe = (source, (source + draw(1, places - 1)) % places, low, low + draw(0, 5),
                    draw(0, modulus - 1) if draw(0, 1) else None)
            if closes_ring(places, [other for other in pipes + (pipe,) if plainly_open(other)]):
                self.assertFails(lambda: record.add(pipe), InvalidNetwork, "ring")
                return "ring"
            self.assertEqual(record.add(pipe), len(pipes))
            model.change(("add", pipe), pipes + (pipe,))
            return "add"
        if kind == 1 and not model.changes:
            self.assertFails(record.undo, NothingToUndo)
            return "none"
        if kind == 1:
            record.undo()
            model.undo()
            return "undo"
        if not pipes:
            self.assertFails(lambda: record.clear(0), InvalidPipe, 0)
            return "none"
        index = draw(0, len(pipes) - 1)
        if kind == 2:
            meter = draw(0, modulus - 1)
            record.read(index, meter)
            model.read(index, meter, ("read", index, meter))
            return "read"
        if pipes[index][4] is None:
            self.assertFails(lambda: record.clear(index), InvalidMeter, None)
            return "meter"
        changed = [pipe[:4] + ((pipe[4] if at != index else None),) for at, pipe in enumerate(pipes)]
        if closes_ring(places, [pipe for pipe in changed if plainly_open(pipe)]):
            self.assertFails(lambda: record.clear(index), InvalidNetwork, "ring")
            return "ring"
        record.clear(index)
        model.read(index, None, ("clear", index))
        return "clear"

    def test_large_networks(self):
        for seed in range(6):
            network, flow = large_network(seed)
            record, model = Record(network), Model(network)
            for step in range(6):
                pipe = (seed * 7 + step * 11) % 60
                meter = flow[pipe] % network[0] if step % 2 else (flow[pipe] + 1) % network[0]
                record.read(pipe, meter)
                model.read(pipe, meter, ("read", pipe, meter))
                self.assertIsModel(record, model)
            record.undo()
            model.undo()
            self.assertIsModel(record, model)


class News(Records):
    def test_none(self):
        for network in (N, N_OFF, EMPTY):
            self.assertEqual(Record(network).news(), [])

    def test_the_latest_change_alone(self):
        record = Record(N)
        record.read(3, 4)
        record.read(3, 3)
        self.assertEqual(record.news(), [(0, None, (5, 95)), (1, None, (2, 2)), (2, None, (2, 2)), (3, None, (3, 93))])
        record.read(2, 3)
        record.read(1, 3)
        record.undo()
        self.assertEqual(record.log()[-1], ("read", 2, 3))
        self.assertEqual(record.news(), plain_news(N, (10, 3, N[2][:2] + ((2, 0, 0, 99, 3),) + N[2][3:])))
        self.assertEqual([row[0] for row in record.news()], [0, 1, 2, 3])

    def test_a_new_pipe(self):
        record = Record((10, 2, ((0, 1, 0, 9, 5), (1, 0, 0, 99, 5))))
        record.add((1, 0, 0, 99, 0))
        self.assertEqual(record.news(), [(2, None, (0, 0))])
        record.undo()
        self.assertEqual(record.news(), [])
        record.add((0, 1, 0, 19, 0))
        self.assertEqual(record.news(), [(1, (5, 5), (5, 15)), (2, None, (0, 10))])
        # No flow is left, and none of the new pipe was there.
        record.add((1, 0, 5, 5, None))
        self.assertEqual(record.news(), [(0, (5, 5), None), (1, (5, 15), None), (2, (0, 10), None)])
        record.add((0, 1, 5, 5, None))
        self.assertEqual(record.news(), [(0, None, (5, 5)), (1, None, (5, 15)), (2, None, (0, 10)), (3, None, (5, 5)),
                                         (4, None, (5, 5))])

    def test_no_flow_before_and_after(self):
        record = Record(N_OFF)
        record.read(3, 5)
        self.assertEqual(record.news(), [])
        record.add((0, 1, 0, 9, 0))
        self.assertEqual(record.news(), [])

    def test_only_ranges_that_differ(self):
        record = Record(single_rings(3, 3))
        record.read(0, 4)
        self.assertEqual(record.news(), [(0, (3, 33), (4, 34)), (1, (3, 33), (4, 34))])
        record.read(2, 3)
        self.assertEqual(record.news(), [])
        record.undo()
        self.assertEqual(record.news(), [(0, (3, 33), (4, 34)), (1, (3, 33), (4, 34))])


class Copies(Records):
    def test_equal_with_the_same_changes(self):
        record = Record(N)
        record.read(0, 7)
        record.clear(2)
        other = record.copy()
        self.assertIs(type(other), Record)
        self.assertTrue(record == other)
        self.assertEqual((other.network(), other.log(), other.news()), (record.network(), record.log(), record.news()))
        other.undo()
        other.undo()
        self.assertEqual(other.network(), N)
        self.assertFails(other.undo, NothingToUndo)

    def test_the_copy_and_its_original_changed_apart(self):
        record, model = Record(N), Model(N)
        record.read(0, 7)
        model.read(0, 7, ("read", 0, 7))
        other, second = record.copy(), Model(N)
        second.read(0, 7, ("read", 0, 7))
        other.read(1, 1)
        second.read(1, 1, ("read", 1, 1))
        self.assertIsModel(record, model)
        record.undo()
        model.undo()
        record.add((0, 1, 0, 9, 2))
        model.change(("add", (0, 1, 0, 9, 2)), N[2] + ((0, 1, 0, 9, 2),))
        self.assertIsModel(record, model)
        self.assertIsModel(other, second)
        for _ in range(2):
            other.undo()
            second.undo()
        self.assertIsModel(other, second)
        self.assertIsModel(record, model)
        third = other.copy()
        third.read(1, 5)
        self.assertIsModel(other, second)


class Equality(Records):
    def test_records_with_other_changes_behind_them(self):
        one, other = Record(N), Record(N_OFF)
        self.assertFalse(one == other)
        self.assertTrue(one != other)
        other.read(3, 3)
        self.assertTrue(one == other)
        self.assertFalse(one != other)
        self.assertNotEqual(one.log(), other.log())
        built = Record((10, 3, ()))
        for pipe in N[2]:
            self.assertFalse(built == one)
            built.add(pipe)
        self.assertTrue(built == one)
        built.undo()
        self.assertFalse(one == built)

    def test_records_that_differ_in_one_item(self):
        for network in ((11, 3, N[2]), (10, 4, N[2]), (10, 3, N[2][:3]), (10, 3, N[2][::-1]), N_OFF,
                        (10, 3, N[2][:3] + ((1, 0, 0, 98, 3),)), (10, 3, N[2][:3] + ((1, 0, 1, 99, 3),))):
            self.assertTrue(Record(N) != Record(network))
            self.assertFalse(Record(N) == Record(network))

    def test_values_that_are_no_records(self):
        record = Record(EMPTY)
        for value in strange_values() + [N, EMPTY, record.network(), "network 10 3", 0, HUGE, [record], (record,)]:
            if not isinstance(value, Touchy):
                self.assertFalse(record == value)
                self.assertTrue(record != value)
        # A value that fails when it is compared is not asked.
        self.assertFalse(record == Touchy())

    def test_len(self):
        record = Record(EMPTY)
        lengths = [len(record)]
        for call in (lambda: record.add(OPEN), lambda: record.add((0, 1, 0, 9, 5)), lambda: record.read(0, 3),
                     lambda: record.clear(1), record.undo, record.undo, record.undo, record.undo):
            call()
            lengths.append(len(record))
        self.assertEqual(lengths, [0, 0, 1, 2, 1, 2, 1, 0, 0])
        self.assertEqual(len(Record(FULL)), 60)


class Values(Records):
    def test_returned_lists_are_new(self):
        record = Record(N)
        record.read(3, 4)
        for method in (record.log, record.news):
            before = method()
            self.assertIs(type(before), list)
            found = method()
            found.clear()
            found = method()
            found.append(None)
            self.assertEqual(method(), before)
        self.assertEqual(record.network(), N_OFF)
        record.undo()
        self.assertEqual((record.log(), record.news(), record.network()), ([], [], N))

    def test_values_are_not_visited(self):
        record = Record(N)
        for deep in (crowded(2), crowded(5), crowded(90), nested(97, lambda value: [value])):
            self.assertFails(lambda: record.read(deep, deep), InvalidPipe, deep)
            self.assertFails(lambda: record.read(0, deep), InvalidMeter, deep)
            self.assertFails(lambda: record.clear(deep), InvalidPipe, deep)
            self.assertRaises(InvalidPipe, record.add, deep)
            self.assertRaises(InvalidPipe, record.add, (0, 1, 0, 9, deep))
            self.assertFalse(record == deep)
            self.assertRaises(WrapcountError, Record, deep)
        self.assertEqual((record.network(), record.log()), (N, []))

    def test_arguments_by_name(self):
        record = Record(network=N)
        self.assertEqual(record.add(pipe=(0, 1, 0, 9, 2)), 4)
        record.read(meter=3, pipe=4)
        record.clear(pipe=2)
        self.assertEqual(record.log(), [("add", (0, 1, 0, 9, 2)), ("read", 4, 3), ("clear", 2)])


if __name__ == "__main__":
    unittest.main()
