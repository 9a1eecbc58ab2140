"""Tests over the whole program: the interface and the conventions of the parts that take no network first, and what
the modules say of the same network."""

import gc
import inspect
import sys
import unittest
import weakref
from copy import deepcopy

from tests.samples import HUGE, N, N_EXCESS, N_OFF, Touchy, crowded, drawn_network, drawn_rounds, draws, flowing_network
from tests.samples import large_network, overfull_network, shuffled, strange_values
from tests.test_conventions import WRONG_NETWORKS
from wrapcount import cheapest, console, corrections, keys, listing, networks, ranges, record, recordtext, rounds
from wrapcount.cheapest import check_cheapest, cheapest_flow
from wrapcount.console import Console
from wrapcount.decisions import check_decision, decide
from wrapcount.errors import GroupSum, InvalidMeter, InvalidNetwork, InvalidPipe, LimitExceeded, NoFlow, NothingToUndo
from wrapcount.errors import ParseError, WrapcountError
from wrapcount.flows import is_flow
from wrapcount.keys import check_cheapest_key, cheapest_key, flow_by_key, is_key, loose_pipes
from wrapcount.listing import count_flows, flow_by_rank, list_flows, rank_of_flow
from wrapcount.ranges import check_greatest, check_least, greatest_count, least_count
from wrapcount.record import Record
from wrapcount.recordtext import read_record, record_text
from wrapcount.residues import bounds, group_sums, residues
from wrapcount.rounds import decide_rounds, rounds_network
from wrapcount.variants import add_networks, renumber_places, reverse_pipes

NO_COUNT = (10, 2, ((0, 1, 16, 18, 5), (1, 0, 0, 99, 5)))
PLAN = (10, 2, ((0, 1, 0, 20), (1, 0, 0, 20)), ((1, 9),))
READINGS = ((5, 3), (4, 9))
LEVELS = ((0,), (None,))
FUNCTIONS = [
    (rounds, "rounds_network", ["plan", "readings", "levels"], (PLAN, READINGS, LEVELS)),
    (rounds, "decide_rounds", ["plan", "readings", "levels"], (PLAN, READINGS, LEVELS)),
    (recordtext, "record_text", ["record"], (Record(N),)),
    (recordtext, "read_record", ["text"], ("network 10 2",)),
]
METHODS = [
    (Record, "__init__", ["network"]), (Record, "network", []), (Record, "add", ["pipe"]),
    (Record, "read", ["pipe", "meter"]), (Record, "clear", ["pipe"]), (Record, "undo", []), (Record, "log", []),
    (Record, "decide", []), (Record, "ranges", []), (Record, "news", []), (Record, "copy", []), (Record, "__len__", []),
    (Record, "__eq__", ["other"]), (Console, "__init__", []), (Console, "run", ["command"]),
]
LIMITS = [(networks, "MAX_MODULUS", 10 ** 6), (networks, "MAX_PLACES", 24), (networks, "MAX_PIPES", 60),
          (networks, "MAX_COUNT", 10 ** 12), (cheapest, "MAX_WEIGHT", 10 ** 6), (corrections, "MAX_CORRECTED", 100),
          (listing, "MAX_LISTED", 500)]


class Held(list):
    """A list that can be referred to weakly."""


class Interface(unittest.TestCase):
    def test_functions(self):
        for module, name, parameters, arguments in FUNCTIONS:
            function = getattr(module, name)
            self.assertEqual((function.__module__, function.__name__), (module.__name__, name))
            found = inspect.signature(function).parameters.values()
            self.assertEqual([(one.name, one.default) for one in found], [(told, one.empty) for told, one in zip(
                parameters, found)])
            self.assertEqual({one.kind for one in found}, {inspect.Parameter.POSITIONAL_OR_KEYWORD})
            self.assertEqual(function(*arguments), function(**dict(reversed(list(zip(parameters, arguments))))))

    def test_methods_are_defined_in_the_class_itself(self):
        for kind, name, parameters in METHODS:
            self.assertIn(name, vars(kind))
            found = list(inspect.signature(vars(kind)[name]).parameters.values())
            self.assertEqual([one.name for one in found[1:]], parameters)
            self.assertEqual({one.kind for one in found}, {inspect.Parameter.POSITIONAL_OR_KEYWORD})
        self.assertEqual((Record.__module__, Console.__module__), (record.__name__, console.__name__))
        self.assertEqual((Record.__bases__, Console.__bases__), ((object,), (object,)))

    def test_limits(self):
        for module, name, value in LIMITS:
            self.assertEqual((type(getattr(module, name)), getattr(module, name)), (int, value))

    def test_kinds_of_the_results(self):
        one = Record(N)
        self.assertEqual([type(value) for value in (one.network(), one.log(), one.decide(), one.ranges(), one.news())],
                         [tuple, list, tuple, tuple, list])
        self.assertIs(type(one.add((0, 1, 0, 9, 1))), int)
        for call in (lambda: one.read(0, 6), lambda: one.clear(0), one.undo):
            self.assertIs(call(), None)
        self.assertEqual([type(change) for change in one.log()], [tuple] * 2)
        self.assertEqual([type(change) for change in one.news()], [tuple] * len(one.news()))
        self.assertIs(type(len(one)), int)
        self.assertIs(one == one.copy(), True)
        self.assertIs(type(record_text(one)), str)
        self.assertIs(type(read_record("network 10 2")), Record)
        self.assertIs(type(Console().run("decide")), str)


class Arguments(unittest.TestCase):
    def test_wrong_networks(self):
        for value, kind, field in WRONG_NETWORKS:
            with self.assertRaises(WrapcountError) as caught:
                Record(value)
            self.assertIs(type(caught.exception), kind)
            self.assertEqual(list(vars(caught.exception).values()), [field])
        for value in strange_values():
            self.assertRaises(InvalidNetwork, Record, value)
            self.assertRaises(WrapcountError, Record, (10, 3, (value,)))

    def test_valid_arguments_are_not_kept(self):
        pipes = tuple([(0, 1, 0, 99, int("5")), (1, 0, 0, 99, None)])
        network, pipe = tuple([10, 2, pipes]), tuple([0, 1, 0, 9, int("5")])
        plan = tuple([10, 2, tuple([pipe[:4], pipe[:4]]), tuple([tuple([1, int("9")])])])
        readings, levels = tuple([tuple([5, int("5")])]), tuple([tuple([int("0")]), tuple([int("0")])])
        text = "network 10 2\n" + "pipe 0 1 0 99 5"
        command = "new " + str(10) + " 2"
        held = [network, pipes, pipes[0], pipes[1], pipe, plan, plan[2], plan[2][0], plan[3], plan[3][0], readings,
                readings[0], levels, levels[0], text, command]
        before = [sys.getrefcount(value) for value in held]
        one, screen = Record(network), Console()
        one.add(pipe)
        one.read(1, 6)
        one.clear(2)
        other = one.copy()
        rounds_network(plan, readings, levels)
        decide_rounds(plan, readings, levels)
        third = read_record(text)
        screen.run(command)
        gc.collect()
        self.assertEqual([sys.getrefcount(value) for value in held], before)
        self.assertEqual([len(one), len(other), len(third), screen.run("meters")], [2, 2, 1, "none"])

    def test_wrong_arguments_are_neither_kept_nor_modified(self):
        one, screen = Record(N), Console()
        calls = [Record, one.add, one.clear, lambda value: one.read(value, 0), lambda value: one.read(0, value),
                 lambda value: one == value, screen.run, read_record]
        calls += [lambda value: function(value, READINGS, LEVELS) for function in (rounds_network, decide_rounds)]
        calls += [lambda value: function(PLAN, value, LEVELS) for function in (rounds_network, decide_rounds)]
        calls += [lambda value: function(PLAN, READINGS, value) for function in (rounds_network, decide_rounds)]
        for call in calls:
            for wrap in (lambda value: value, lambda value: (value,), lambda value: (value, 1),
                         lambda value: (10, 2, (value,)), lambda value: (10, 2, (value,), ())):
                wrong = Held([[10], [2], 3])
                gone, copied = weakref.ref(wrong), deepcopy(list(wrong))
                try:
                    call(wrap(wrong))
                except WrapcountError:
                    pass
                self.assertEqual(list(wrong), copied)
                del wrong
                gc.collect()
                self.assertIsNone(gone())
        self.assertEqual((one.network(), one.log(), screen.run("undo")), (N, [], "no record"))

    def test_fields_are_the_very_objects(self):
        one = Record(N)
        for value in strange_values() + [HUGE, -HUGE, -1, 10, (1, 0)]:
            for call in (lambda: one.read(value, value), lambda: one.clear(value)):
                with self.assertRaises(InvalidPipe) as caught:
                    call()
                self.assertIs(caught.exception.index, value)
            with self.assertRaises(InvalidMeter) as caught:
                one.read(0, value)
            self.assertIs(caught.exception.value, value)

    def test_errors_can_be_shown_whatever_was_passed(self):
        one = Record(N)
        for value in (crowded(2), crowded(5), Touchy()):
            for call in (Record, one.add, one.clear, lambda value: one.read(0, value), read_record,
                         lambda value: decide_rounds(value, None, None), lambda value: decide_rounds(PLAN, value, None),
                         lambda value: decide_rounds(PLAN, READINGS, value)):
                with self.assertRaises(WrapcountError) as caught:
                    call(value)
                self.assertLess(len(str(caught.exception)) + len(repr(caught.exception)), 400)

    def test_errors_without_fields(self):
        with self.assertRaises(NothingToUndo) as caught:
            Record(N).undo()
        self.assertEqual(vars(caught.exception), {})
        with self.assertRaises(ParseError) as caught:
            read_record(None)
        self.assertEqual(vars(caught.exception), {"line": 0, "word": 0})


def small(many):
    return [make(seed) for seed in range(many) for make in (drawn_network, flowing_network)]


def unit(network, pipe, weight):
    """Returns the weights that are 0 but for one pipe."""
    return tuple(weight * (at == pipe) for at in range(len(network[2])))


def outcome(call):
    """Returns the result of the call, or the class and the fields of its error."""
    try:
        return call()
    except WrapcountError as error:
        return (type(error), vars(error))


class Agreement(unittest.TestCase):
    def assertFlowing(self, network, spans):
        """Asserts that all modules agree on a network with a flow, whose ranges these are."""
        self.assertFalse([total for _, total in group_sums(network) if total])
        for (least, most), (low, high), residue in zip(spans, bounds(network), residues(network)):
            self.assertTrue(low <= least <= most <= high)
            self.assertEqual((least % network[0], most % network[0]), (residue, residue))
        for pipe, (least, most) in enumerate(spans):
            self.assertEqual(check_least(network, pipe, least_count(network, pipe)), least)
            self.assertEqual(check_greatest(network, pipe, greatest_count(network, pipe)), most)
        loose = tuple(pipe for pipe, (least, most) in enumerate(spans) if least < most)
        self.assertEqual(loose_pipes(network), loose)
        self.assertTrue(is_key(network, loose))
        key = cheapest_key(network, (1,) * len(network[2]))
        self.assertEqual(check_cheapest_key(network, (1,) * len(network[2]), key), key[0])
        self.assertTrue(is_key(network, key[1]))
        flow = decide(network)[1]
        self.assertEqual(flow_by_key(network, tuple((pipe, flow[pipe]) for pipe in key[1])), flow)
        if network[0] <= 100:
            self.assertEqual(corrections.corrections(network), ())

    def assertWithout(self, network, word):
        """Asserts that all modules agree that the network has no flow."""
        self.assertEqual((list_flows(network), count_flows(network)), ([], 0))
        costs = (1,) * len(network[2])
        calls = [lambda: ranges.ranges(network), lambda: Record(network).ranges(), lambda: loose_pipes(network)]
        calls += [lambda: cheapest_flow(network, costs), lambda: cheapest_key(network, costs)]
        calls += [lambda: is_key(network, ()), lambda: flow_by_key(network, ())]
        calls += [lambda: greatest_count(network, len(costs) - 1), lambda: least_count(network, 0)] if costs else []
        for call in calls:
            with self.assertRaises(NoFlow) as caught:
                call()
            self.assertEqual(check_decision(network, caught.exception.reason), word)
        self.assertEqual(word == "sum", any(total for _, total in group_sums(network)))
        if word == "sum":
            self.assertRaises(GroupSum, bounds, network)
        else:
            self.assertEqual(word == "pipe", None in bounds(network))
        if network[0] <= 100:
            modulus, places, pipes = network
            for pipe, meter in corrections.corrections(network)[:5]:
                changed = Record(network)
                changed.read(pipe, meter)
                self.assertEqual(changed.decide()[0], "flow")

    def test_all_modules_on_drawn_networks(self):
        seen = {"flow": 0, "sum": 0, "pipe": 0, "places": 0}
        for network in small(60) + [N, N_OFF, NO_COUNT, N_EXCESS]:
            word = decide(network)[0]
            seen[word] += 1
            if word == "flow":
                spans = ranges.ranges(network)
                self.assertFlowing(network, spans)
                self.assertListed(network, spans)
            else:
                self.assertWithout(network, word)
        self.assertGreater(min(seen.values()), 2)

    def assertListed(self, network, spans):
        """Asserts that the list of all flows agrees with the ranges and with the cheapest flows."""
        found = outcome(lambda: list_flows(network))
        if isinstance(found, tuple):
            self.assertEqual(found, (LimitExceeded, {"limit": 500}))
            return
        self.assertEqual(tuple((min(column), max(column)) for column in zip(*found)), spans)
        self.assertIn(decide(network)[1], found)
        for rank in range(0, len(found), 7):
            self.assertTrue(is_flow(network, found[rank]))
            self.assertEqual((flow_by_rank(network, rank), rank_of_flow(network, found[rank])), (found[rank], rank))
        for pipe, (least, most) in enumerate(spans):
            self.assertEqual(cheapest_flow(network, unit(network, pipe, 1))[0], least)
            self.assertEqual(cheapest_flow(network, unit(network, pipe, -1))[0], -most)

    def test_all_modules_on_large_networks(self):
        for seed in range(10):
            network, flow = large_network(seed)
            spans = ranges.ranges(network)
            self.assertFlowing(network, spans)
            for pipe in (seed, 30 + seed):
                self.assertEqual(cheapest_flow(network, unit(network, pipe, 10 ** 6))[0], spans[pipe][0] * 10 ** 6)
                self.assertEqual(cheapest_flow(network, unit(network, pipe, -1))[0], -spans[pipe][1])
            self.assertWithout(overfull_network(seed)[0], "places")

    def test_reversed_and_renumbered_networks(self):
        for seed, network in enumerate(small(50)):
            draw = draws(seed)
            order = tuple(shuffled(range(network[1]), draw))
            weights = tuple(draw(-9, 9) for _ in network[2])
            costs = tuple(draw(1, 9) for _ in network[2])
            results = [
                [outcome(lambda: list_flows(one)), decide(one)[0], corrections.corrections(one), outcome(lambda: [
                    ranges.ranges(one), loose_pipes(one), cheapest_flow(one, weights)[0], cheapest_key(one, costs)[0],
                ]) if decide(one)[0] == "flow" else None]
                for one in (network, reverse_pipes(network), renumber_places(network, order))
            ]
            self.assertEqual(results[1], results[0])
            self.assertEqual(results[2], results[0])

    def test_potentials_of_renumbered_networks(self):
        for seed in range(20):
            network, _ = large_network(seed)
            order = tuple(shuffled(range(24), draws(seed)))
            weights = tuple((at * 7919 + seed) % 2001 - 1000 for at in range(60))
            total, flow, potentials = cheapest_flow(network, weights)
            moved = [0] * 24
            for place, potential in zip(order, potentials):
                moved[place] = potential
            answer = (total, flow, tuple(moved))
            self.assertEqual(check_cheapest(renumber_places(network, order), weights, answer), total)
            back = (total, flow, tuple(-potential for potential in potentials))
            self.assertEqual(check_cheapest(reverse_pipes(network), weights, back), total)

    def test_sums_of_networks(self):
        many = 0
        for network in small(80):
            total = add_networks(network, network)
            doubled = tuple((group, 2 * rest % network[0]) for group, rest in group_sums(network))
            self.assertEqual(group_sums(total), doubled)
            if decide(network)[0] == "flow":
                found = outcome(lambda: list_flows(network))
                flows = found[:5] if isinstance(found, list) else [decide(network)[1]]
                for one in flows:
                    for other in flows:
                        self.assertTrue(is_flow(total, tuple(left + right for left, right in zip(one, other))))
                for (low, high), (least, most) in zip(ranges.ranges(total), ranges.ranges(network)):
                    self.assertTrue(low <= 2 * least <= 2 * most <= high)
                many += 1
        self.assertGreater(many, 40)

    def test_records_and_consoles_after_changes(self):
        for seed in range(40):
            draw = draws(seed)
            network = (drawn_network, flowing_network)[seed % 2](seed)
            one, screen = Record((network[0], network[1], ())), Console()
            screen.run(f"new {network[0]} {network[1]}")
            for pipe in network[2]:
                one.add(pipe)
                screen.run("pipe " + " ".join("-" if item is None else str(item) for item in pipe))
            for _ in range(10):
                self.assertChanged(one, screen, draw)
                now = one.network()
                self.assertEqual(one.decide(), decide(now))
                self.assertEqual(outcome(one.ranges), outcome(lambda: ranges.ranges(now)))
                told = read_record(record_text(one))
                self.assertTrue(told == one and told.network() == now and len(told) == len(one))
                self.assertEqual(screen.run("decide"), decide(now)[0])
                self.assertEqual(screen.run("meters"), " ".join(
                    "-" if pipe[4] is None else str(pipe[4]) for pipe in now[2]) or "none")
                many = outcome(lambda: count_flows(now))
                self.assertEqual(screen.run("count"), "limit exceeded" if isinstance(many, tuple) else str(many))
                if decide(now)[0] == "flow":
                    self.assertEqual(screen.run("loose"), " ".join(map(str, loose_pipes(now))) or "none")
                    for pipe, (least, most) in enumerate(ranges.ranges(now)):
                        self.assertEqual(screen.run(f"range {pipe}"), f"{least} {most}")

    def assertChanged(self, one, screen, draw):
        """Makes one change to both. Asserts that it succeeds, or fails, in both."""
        many = len(one.network()[2])
        pipe, meter = draw(0, max(0, many - 1)), draw(0, one.network()[0] - 1)
        command, call = [
            (f"read {pipe} {meter}", lambda: one.read(pipe, meter)), (f"clear {pipe}", lambda: one.clear(pipe)),
            ("undo", one.undo), (f"pipe 0 1 {meter} {meter + pipe} -", lambda: one.add((0, 1, meter, meter + pipe, None))),
        ][draw(0, 3)]
        before = one.network(), one.log()
        result = outcome(call)
        if isinstance(result, tuple):
            self.assertIn(screen.run(command), ("bad network", "bad pipe", "bad meter", "nothing to undo"))
            self.assertEqual((one.network(), one.log()), before)
        else:
            self.assertIn(screen.run(command), ("ok", str(result)))

    def test_rounds_and_their_networks(self):
        for seed in range(60):
            plan, readings, levels, _, _ = drawn_rounds(seed, 1 + seed % 3)
            if seed % 2 and readings[0][0] is not None:
                first = ((readings[0][0] + 1) % plan[0],) + readings[0][1:]
                readings = (first,) + readings[1:]
            network, answer = rounds_network(plan, readings, levels), decide_rounds(plan, readings, levels)
            self.assertEqual(answer[0], decide(network)[0])
            if answer[0] == "flow":
                flow = tuple(count for row in answer[1] + answer[2] for count in row)
                self.assertTrue(is_flow(network, flow))
                self.assertTrue(all(least <= count <= most for count, (least, most) in zip(flow, ranges.ranges(network))))
                self.assertEqual(read_record(record_text(Record(network))).network(), network)
            else:
                self.assertEqual(check_decision(network, answer), answer[0])
                self.assertWithout(network, answer[0])

    def test_results_do_not_depend_on_earlier_calls(self):
        def results(network):
            weights = tuple(range(-2, len(network[2]) - 2))
            costs = tuple(range(1, len(network[2]) + 1))
            calls = [lambda: cheapest_flow(network, weights), lambda: loose_pipes(network),
                     lambda: cheapest_key(network, costs), lambda: corrections.corrections(network),
                     lambda: list_flows(network), lambda: Record(network).ranges(), lambda: Record(network).decide()]
            return [outcome(call) for call in calls]

        drawn = small(25)
        seen = [results(network) for network in drawn]
        self.assertEqual([results(network) for network in reversed(drawn)], seen[::-1])
        for network in drawn:
            found = outcome(lambda: list_flows(network))
            if isinstance(found, list):
                found.append(None)
        self.assertEqual([results(network) for network in drawn], seen)
        self.assertEqual(keys.loose_pipes(N), (0, 3))


if __name__ == "__main__":
    unittest.main()
