"""Tests of the conventions, points 0 to 4, for all functions of the package that take a network."""

import gc
import inspect
import sys
import unittest
import weakref
from copy import deepcopy

from tests.samples import HUGE, N, N_EXCESS, N_OFF, crowded, drawn_network, nested, strange_values
from wrapcount import cheapest, corrections, decisions, flows, keys, listing, networks, ranges, residues, variants
from wrapcount.errors import GroupSum, InvalidAnswer, InvalidFlow, InvalidNetwork, InvalidOrder, InvalidPipe
from wrapcount.errors import InvalidPipes, InvalidPlaces, InvalidRank, InvalidWeights, LimitExceeded, NetworkMismatch
from wrapcount.errors import NoCount, NoFlow, WrapcountError

FLOW = (5, 2, 2, 3)
RING = (10, 2, ((0, 1, 0, 9, None), (1, 0, 0, 9, None)))
# The module, the name, the parameters and valid arguments of every function.
FUNCTIONS = [
    (networks, "check_network", ["value"], (N,)),
    (networks, "is_network", ["value"], (N,)),
    (networks, "is_open", ["network", "pipe"], (N, 1)),
    (networks, "open_pipes", ["network"], (N,)),
    (networks, "groups", ["network"], (N,)),
    (networks, "entering", ["network", "places"], (N, (1, 2))),
    (networks, "leaving", ["network", "places"], (N, (1, 2))),
    (residues, "group_sums", ["network"], (N,)),
    (residues, "residues", ["network"], (N,)),
    (residues, "bounds", ["network"], (N,)),
    (residues, "excess", ["network", "places"], (N, (1, 2))),
    (flows, "check_flow", ["network", "value"], (N, FLOW)),
    (flows, "is_flow", ["network", "value"], (N, FLOW)),
    (decisions, "decide", ["network"], (N,)),
    (decisions, "check_decision", ["network", "answer"], (N, ("flow", FLOW))),
    (ranges, "greatest_count", ["network", "pipe"], (N, 0)),
    (ranges, "least_count", ["network", "pipe"], (N, 0)),
    (ranges, "ranges", ["network"], (N,)),
    (ranges, "check_greatest", ["network", "pipe", "answer"], (N, 0, (95, (95, 2, 2, 93), None))),
    (ranges, "check_least", ["network", "pipe", "answer"], (N, 0, (5, FLOW, None))),
    (variants, "reverse_pipes", ["network"], (N,)),
    (variants, "renumber_places", ["network", "order"], (N, (2, 0, 1))),
    (variants, "add_networks", ["one", "other"], (N, N)),
    (cheapest, "cheapest_flow", ["network", "weights"], (N, (1, 0, 0, 1))),
    (cheapest, "check_cheapest", ["network", "weights", "answer"], (N, (1, 0, 0, 1), (8, FLOW, (0, 0, 0)))),
    (keys, "loose_pipes", ["network"], (N,)),
    (keys, "is_key", ["network", "pipes"], (N, (0,))),
    (keys, "flow_by_key", ["network", "counts"], (N, ((0, 15),))),
    (keys, "cheapest_key", ["network", "costs"], (N, (5, 1, 1, 2))),
    (keys, "check_cheapest_key", ["network", "costs", "answer"], (N, (5, 1, 1, 2), (2, (3,)))),
    (corrections, "corrections", ["network"], (N_OFF,)),
    (listing, "list_flows", ["network"], (N,)),
    (listing, "count_flows", ["network"], (N,)),
    (listing, "flow_by_rank", ["network", "rank"], (N, 1)),
    (listing, "rank_of_flow", ["network", "flow"], (N, (15, 2, 2, 13))),
]
# These return False instead of raising an error, for the arguments that they are asked about.
TELLING = ("is_network", "is_flow")
# What is no network, and the class and the field of the error.
WRONG_NETWORKS = [
    (None, InvalidNetwork, "form"),
    (list(N), InvalidNetwork, "form"),
    (N + (0,), InvalidNetwork, "form"),
    (crowded(2), InvalidNetwork, "form"),
    (crowded(3), InvalidNetwork, "modulus"),
    ((1, 0, []), InvalidNetwork, "modulus"),
    ((True, 3, ()), InvalidNetwork, "modulus"),
    ((10, crowded(5), crowded(5)), InvalidNetwork, "places"),
    ((10, 0, []), InvalidNetwork, "places"),
    ((10, True, ()), InvalidNetwork, "places"),
    ((10, 3, [crowded(2)]), InvalidNetwork, "pipes"),
    ((10, 3, list(N[2])), InvalidNetwork, "pipes"),
    ((10, 3, (None,) * 61), InvalidNetwork, "pipes"),
    ((10, 3, crowded(5)), InvalidPipe, 0),
    ((10, 3, N[2] + (crowded(5), None)), InvalidPipe, 4),
    ((10, 3, N[2] + (list(N[2][0]),)), InvalidPipe, 4),
    ((10, 3, N[2] + ((False, 1, 0, 9, 5),)), InvalidPipe, 4),
    ((10, 2, RING[2] + ((0, 1, 0, 9, 10),)), InvalidPipe, 2),
    (RING, InvalidNetwork, "ring"),
    ((10, 2, ((0, 1, 0, 9, None), (0, 1, 0, 9, None))), InvalidNetwork, "ring"),
    ((10, 3, ((0, 1, 0, 9, None), (2, 1, 0, 9, None), (2, 0, 0, 9, None))), InvalidNetwork, "ring"),
]
NO_PLACES = [[], [0], (0, 0), (1, 0), (3,), (-1,), (True,), (HUGE,), None, 0, crowded(2), (crowded(3),)]


def calls(function, parameters, arguments):
    """Calls the function with the arguments by position and by name. Returns both results."""
    return function(*arguments), function(**dict(zip(parameters, arguments)))


class Held(list):
    """A list that can be referred to weakly."""


class Interface(unittest.TestCase):
    def test_functions_are_defined_where_they_are_listed(self):
        for module, name, parameters, _ in FUNCTIONS:
            with self.subTest(name):
                function = getattr(module, name)
                self.assertTrue(inspect.isfunction(function))
                self.assertEqual((function.__module__, function.__name__), (module.__name__, name))

    def test_parameters(self):
        for module, name, parameters, _ in FUNCTIONS:
            with self.subTest(name):
                found = inspect.signature(getattr(module, name)).parameters.values()
                self.assertEqual([one.name for one in found], parameters)
                self.assertEqual({one.kind for one in found}, {inspect.Parameter.POSITIONAL_OR_KEYWORD})
                self.assertEqual({one.default for one in found}, {inspect.Parameter.empty})

    def test_arguments_by_position_and_by_name(self):
        for module, name, parameters, arguments in FUNCTIONS:
            with self.subTest(name):
                one, other = calls(getattr(module, name), parameters, arguments)
                self.assertEqual(one, other)

    def test_names_in_any_order(self):
        self.assertIs(networks.is_open(pipe=1, network=N), True)
        self.assertEqual(networks.entering(places=(1, 2), network=N), (0,))
        self.assertEqual(residues.excess(places=(1, 2), network=N), -180)
        self.assertIs(flows.check_flow(value=FLOW, network=N), None)
        self.assertIs(flows.is_flow(value=FLOW, network=N), True)
        self.assertEqual(decisions.check_decision(answer=("flow", FLOW), network=N), "flow")
        self.assertEqual(ranges.greatest_count(pipe=0, network=N)[0], 95)
        self.assertEqual(ranges.least_count(pipe=0, network=N)[0], 5)
        self.assertEqual(ranges.check_least(answer=(5, FLOW, None), pipe=0, network=N), 5)
        self.assertEqual(ranges.check_greatest(pipe=1, answer=(2, FLOW, None), network=N), 2)
        self.assertEqual(variants.renumber_places(order=(0, 1, 2), network=N), N)
        self.assertEqual(variants.add_networks(other=(10, 3, ()), one=(10, 3, ())), (10, 3, ()))
        self.assertEqual(cheapest.cheapest_flow(weights=(1, 0, 0, 1), network=N)[:2], (8, FLOW))
        self.assertEqual(cheapest.check_cheapest(answer=(8, FLOW, (0, 0, 0)), weights=(1, 0, 0, 1), network=N), 8)
        self.assertIs(keys.is_key(pipes=(0,), network=N), True)
        self.assertEqual(keys.flow_by_key(counts=((0, 15),), network=N), (15, 2, 2, 13))
        self.assertEqual(keys.cheapest_key(costs=(5, 1, 1, 2), network=N), (2, (3,)))
        self.assertEqual(keys.check_cheapest_key(answer=(2, (3,)), costs=(5, 1, 1, 2), network=N), 2)
        self.assertEqual(listing.flow_by_rank(rank=1, network=N), (15, 2, 2, 13))
        self.assertEqual(listing.rank_of_flow(flow=(15, 2, 2, 13), network=N), 1)

    def test_kinds_of_the_results(self):
        def kinds(value):
            return [kinds(item) for item in value] if type(value) is tuple else type(value)

        self.assertIs(networks.check_network(N), None)
        self.assertIs(networks.is_network(N), True)
        self.assertIs(networks.is_open(N, 1), True)
        self.assertEqual(kinds(networks.open_pipes(N)), [int])
        self.assertEqual(kinds(networks.groups(N)), [[int], [int, int]])
        self.assertEqual(kinds(networks.entering(N, (1, 2))), [int])
        self.assertEqual(kinds(networks.leaving(N, (1, 2))), [int, int])
        self.assertEqual(kinds(residues.group_sums(N)), [[[int], int], [[int, int], int]])
        self.assertEqual(kinds(residues.residues(N)), [int] * 4)
        self.assertEqual(kinds(residues.bounds(N)), [[int, int]] * 4)
        self.assertEqual(kinds(residues.excess(N, (1, 2))), int)
        network = [int, int, [[int] * 5, [int] * 4 + [type(None)], [int] * 5, [int] * 5]]
        self.assertIs(flows.check_flow(N, FLOW), None)
        self.assertIs(flows.is_flow(N, FLOW), True)
        self.assertIs(flows.is_flow(N, None), False)
        self.assertEqual(kinds(decisions.decide(N)), [str, [int] * 4])
        self.assertEqual(kinds(decisions.decide(N_OFF)), [str, [int]])
        self.assertEqual(kinds(decisions.decide((10, 2, ((0, 1, 16, 18, 5), (1, 0, 0, 9, 5))))), [str, int])
        self.assertEqual(kinds(decisions.decide(N_EXCESS)), [str, [int] * 3])
        self.assertEqual(kinds(decisions.check_decision(N, ("flow", FLOW))), str)
        self.assertEqual(kinds(ranges.greatest_count(N, 0)), [int, [int] * 4, type(None)])
        self.assertEqual(kinds(ranges.least_count(N, 0)), [int, [int] * 4, type(None)])
        self.assertEqual(kinds(ranges.greatest_count((10, 2, ((0, 1, 0, 10, 0),)), 0)), [int, [int], [int]])
        self.assertEqual(kinds(ranges.least_count((10, 2, ((0, 1, 0, 9, None),)), 0)), [int, [int], type(None)])
        self.assertEqual(kinds(ranges.ranges(N)), [[int, int]] * 4)
        self.assertEqual(kinds(ranges.check_greatest(N, 0, (95, (95, 2, 2, 93), None))), int)
        self.assertEqual(kinds(ranges.check_least(N, 0, (5, FLOW, None))), int)
        self.assertEqual(kinds(variants.reverse_pipes(N)), network)
        self.assertEqual(kinds(variants.renumber_places(N, (2, 0, 1))), network)
        self.assertEqual(kinds(variants.add_networks(N, N)), network)
        self.assertEqual(kinds(cheapest.cheapest_flow(N, (1, 0, 0, 1))), [int, [int] * 4, [int] * 3])
        self.assertEqual(kinds(cheapest.check_cheapest(N, (1, 0, 0, 1), (8, FLOW, (0, 0, 0)))), int)
        self.assertEqual(kinds(keys.loose_pipes(N)), [int] * 2)
        self.assertIs(keys.is_key(N, (0,)), True)
        self.assertIs(keys.is_key(N, ()), False)
        self.assertEqual(kinds(keys.flow_by_key(N, ((0, 15),))), [int] * 4)
        self.assertIs(keys.flow_by_key(N, ((0, 16),)), None)
        self.assertEqual(kinds(keys.cheapest_key(N, (5, 1, 1, 2))), [int, [int]])
        self.assertEqual(kinds(keys.check_cheapest_key(N, (5, 1, 1, 2), (2, (3,)))), int)
        self.assertEqual(kinds(corrections.corrections(N_OFF)), [[int, int]] * 3)
        self.assertIs(type(listing.list_flows(N)), list)
        self.assertEqual([kinds(flow) for flow in listing.list_flows(N)], [[int] * 4] * 10)
        self.assertEqual(kinds(listing.count_flows(N)), int)
        self.assertEqual(kinds(listing.flow_by_rank(N, 1)), [int] * 4)
        self.assertEqual(kinds(listing.rank_of_flow(N, FLOW)), int)


class WrongNetworks(unittest.TestCase):
    def assertFails(self, call, kind, field):
        with self.assertRaises(WrapcountError) as caught:
            call()
        self.assertIs(type(caught.exception), kind)
        self.assertEqual(list(vars(caught.exception).values()), [field])

    def test_every_function_checks_the_network_before_all_other_arguments(self):
        for module, name, parameters, arguments in FUNCTIONS:
            function = getattr(module, name)
            for value, kind, field in WRONG_NETWORKS:
                if name == "is_network":
                    self.assertIs(function(value), False)
                    continue
                for others in (arguments[1:], (None,) * len(arguments[1:]), (crowded(2),) * len(arguments[1:])):
                    with self.subTest(name, kind=kind.__name__, field=field):
                        self.assertFails(lambda: function(value, *others), kind, field)
                        by_name = dict(zip(parameters, (value,) + others))
                        self.assertFails(lambda: function(**by_name), kind, field)

    def test_add_networks_checks_both_networks_before_it_compares_them(self):
        for value, kind, field in WRONG_NETWORKS:
            self.assertFails(lambda: variants.add_networks(N, value), kind, field)
            self.assertFails(lambda: variants.add_networks((11, 2, ()), value), kind, field)
            self.assertFails(lambda: variants.add_networks(value, (11, 2, ())), kind, field)
        for value, kind, field in WRONG_NETWORKS:
            for other, _, _ in WRONG_NETWORKS:
                self.assertFails(lambda: variants.add_networks(value, other), kind, field)

    def test_every_value_of_every_kind_at_every_place_of_a_network(self):
        # None of these values can stand where it is put, except None as a meter.
        for value in strange_values():
            wrong = [((value, 3, N[2]), "modulus"), ((10, value, N[2]), "places")]
            wrong += [] if isinstance(value, tuple) else [((10, 3, value), "pipes")]
            for network, part in wrong:
                self.assertFails(lambda: networks.check_network(network), InvalidNetwork, part)
                self.assertIs(networks.is_network(network), False)
            pipes = [value] + [N[2][3][:at] + (value,) + N[2][3][at + 1:] for at in range(4)]
            pipes += [] if value is None else [N[2][3][:4] + (value,)]
            for pipe in pipes:
                network = (10, 3, N[2][:3] + (pipe,))
                self.assertFails(lambda: networks.check_network(network), InvalidPipe, 3)
                self.assertIs(networks.is_network(network), False)

    def test_values_nested_a_hundred_levels_deep(self):
        for make in (lambda value: (value,), lambda value: [value], lambda value: (value,) * 3,
                     lambda value: (10, 3, (value,)), lambda value: (0, 1, 0, 9, value), lambda value: {0: value}):
            deep = nested(100, make)
            self.assertIs(networks.is_network(deep), False)
            self.assertIs(networks.is_network((10, 3, (deep,))), False)
            self.assertIs(networks.is_network((10, 3, ((0, 1, 0, 9, deep),))), False)

    def test_integers_of_a_thousand_digits(self):
        for number in (HUGE, -HUGE):
            for value in ((number, 3, ()), (10, number, ()), (10, 3, number)):
                self.assertIs(networks.is_network(value), False)
            for at in range(5):
                pipe = N[2][0][:at] + (number,) + N[2][0][at + 1:]
                self.assertFails(lambda: networks.check_network((10, 3, (pipe,))), InvalidPipe, 0)


class OrderOfErrors(unittest.TestCase):
    NO_COUNT = (10, 2, ((0, 1, 16, 18, 5), (1, 0, 0, 9, 5)))

    def test_places_before_sums_before_bounds(self):
        both = (10, 2, ((0, 1, 16, 18, 5),))
        for network, places, kind in ((RING, [0], InvalidNetwork), (N_OFF, [0], InvalidPlaces),
                                      (self.NO_COUNT, [0], InvalidPlaces), (both, [0], InvalidPlaces),
                                      (both, (0,), GroupSum), (self.NO_COUNT, (0,), NoCount)):
            with self.assertRaises(kind):
                residues.excess(network, places)

    def test_pipes_before_answers_before_reasons(self):
        for network in (N_OFF, self.NO_COUNT, N_EXCESS):
            for function in (ranges.greatest_count, ranges.least_count):
                self.assertRaises(InvalidPipe, function, network, None)
                self.assertRaises(NoFlow, function, network, 0)
            for function in (ranges.check_greatest, ranges.check_least):
                self.assertRaises(InvalidPipe, function, network, None, None)
                self.assertRaises(InvalidAnswer, function, network, 0, None)
            self.assertRaises(NoFlow, ranges.ranges, network)
            self.assertRaises(InvalidAnswer, decisions.check_decision, network, None)

    def test_weights_and_pipes_before_reasons_before_answers(self):
        for network in (N_OFF, self.NO_COUNT, N_EXCESS):
            costs = (1,) * len(network[2])
            for function in (cheapest.check_cheapest, keys.check_cheapest_key):
                self.assertRaises(InvalidWeights, function, network, None, None)
                self.assertRaises(NoFlow, function, network, costs, None)
            for function in (cheapest.cheapest_flow, keys.cheapest_key):
                self.assertRaises(InvalidWeights, function, network, costs[1:])
                self.assertRaises(NoFlow, function, network, costs)
            for function in (keys.is_key, keys.flow_by_key):
                self.assertRaises(InvalidPipes, function, network, None)
                self.assertRaises(NoFlow, function, network, ())
            self.assertRaises(NoFlow, keys.loose_pipes, network)
            self.assertRaises(InvalidRank, listing.flow_by_rank, network, 0)
            self.assertRaises(InvalidFlow, listing.rank_of_flow, network, ())
            self.assertEqual((listing.list_flows(network), listing.count_flows(network)), ([], 0))
        for function in (cheapest.check_cheapest, keys.check_cheapest_key):
            self.assertRaises(InvalidAnswer, function, N, (1,) * 4, None)

    def test_limits_before_other_arguments(self):
        many = (101, 2, ((0, 1, 0, 10 ** 12, 0), (1, 0, 0, 10 ** 12, 0)))
        calls = [lambda: listing.list_flows(many), lambda: listing.count_flows(many)]
        calls += [lambda: listing.flow_by_rank(many, None), lambda: listing.rank_of_flow(many, None)]
        calls += [lambda: corrections.corrections(many)]
        for call, limit in zip(calls, (500, 500, 500, 500, 100)):
            with self.assertRaises(LimitExceeded) as caught:
                call()
            self.assertEqual(caught.exception.limit, limit)

    def test_fields_are_the_very_objects(self):
        for value in strange_values() + [HUGE, -HUGE, -1, 4, (1, 0)]:
            for function, others in ((networks.is_open, ()), (ranges.greatest_count, ()), (ranges.least_count, ()),
                                     (ranges.check_greatest, (None,)), (ranges.check_least, (None,))):
                with self.assertRaises(InvalidPipe) as caught:
                    function(N, value, *others)
                self.assertIs(caught.exception.index, value)
            with self.assertRaises(InvalidOrder) as caught:
                variants.renumber_places(N, value)
            self.assertIs(caught.exception.value, value)
            for function in (networks.entering, networks.leaving, residues.excess):
                with self.assertRaises(InvalidPlaces) as caught:
                    function(N, value)
                self.assertIs(caught.exception.value, value)
            with self.assertRaises(InvalidRank) as caught:
                listing.flow_by_rank(N, (value,))
            self.assertIs(caught.exception.value[0], value)
        for value in strange_values() + [HUGE, -HUGE, -1, 4, (1, 0)]:
            for function in (keys.is_key, keys.flow_by_key):
                with self.assertRaises(InvalidPipes) as caught:
                    function(N, value)
                self.assertIs(caught.exception.value, value)

    def test_errors_can_be_shown_whatever_was_passed(self):
        for value in (crowded(2), crowded(5), nested(100, lambda value: [value])):
            calls = [networks.is_open, networks.entering, networks.leaving, residues.excess, flows.check_flow]
            calls += [decisions.check_decision, ranges.greatest_count, ranges.least_count]
            calls += [variants.renumber_places, variants.add_networks]
            calls += [lambda network, value: ranges.check_greatest(network, 0, value)]
            calls += [lambda network, value: ranges.check_least(network, 0, value)]
            calls += [lambda network, value: decisions.check_decision(network, (value, value))]
            calls += [lambda network, value: flows.check_flow(network, (value,) * 4)]
            calls += [cheapest.cheapest_flow, keys.is_key, keys.flow_by_key, keys.cheapest_key, listing.flow_by_rank]
            calls += [listing.rank_of_flow]
            calls += [lambda network, value: cheapest.cheapest_flow(network, (value,) * 4)]
            calls += [lambda network, value: cheapest.check_cheapest(network, (1,) * 4, value)]
            calls += [lambda network, value: keys.check_cheapest_key(network, (1,) * 4, (value, value))]
            for function in calls:
                with self.assertRaises(WrapcountError) as caught:
                    function(N, value)
                self.assertLess(len(str(caught.exception)), 200)
                self.assertLess(len(repr(caught.exception)), 200)


class Arguments(unittest.TestCase):
    def test_arguments_are_not_modified(self):
        for module, name, _, arguments in FUNCTIONS:
            for wrong in ([10, 3, [[0, 1, 0, 9, 5]]], (10, 3, [[0, 1, 0, 9, 5]]), (10, 3, ([1, 0, 0, 9, 5],)),
                          {"modulus": [10]}, [[2], [1]]):
                before = deepcopy(wrong)
                try:
                    getattr(module, name)(wrong, *arguments[1:])
                except WrapcountError:
                    pass
                self.assertEqual(wrong, before)
                for at in range(1, len(arguments)):
                    passed = arguments[:at] + (wrong,) + arguments[at + 1:]
                    if name in TELLING:
                        self.assertIs(getattr(module, name)(*passed), False)
                    else:
                        self.assertRaises(WrapcountError, getattr(module, name), *passed)
                    self.assertEqual(wrong, before)

    def test_valid_arguments_are_not_kept(self):
        for module, name, parameters, _ in FUNCTIONS:
            # Made here, so that nothing else refers to them.
            pipes = tuple([(0, 1, 0, 99, int("5")), (1, 0, 0, 99, None)])
            network, places, flow = tuple([10, 2, pipes]), tuple([int("1")]), tuple([95, int("95")])
            low = tuple([5, int("5")])
            ones, none = tuple([1, int("1")]), tuple([0, int("0")])
            answers = {"check_decision": tuple(["flow", flow]), "check_greatest": tuple([95, flow, None]),
                       "check_least": tuple([5, low, None]), "check_cheapest": tuple([10, low, none]),
                       "check_cheapest_key": tuple([1, places])}
            made = {"places": places, "pipe": 0, "order": tuple([1, int("0")]), "other": network, "network": network,
                    "one": network, "value": network if name in ("check_network", "is_network") else flow,
                    "answer": answers.get(name, answers), "weights": ones, "costs": ones, "pipes": places,
                    "counts": tuple([tuple([1, int("95")])]), "rank": 9, "flow": flow}
            held = [network, pipes, pipes[0], pipes[1], places, flow, low, ones, none]
            held += [made["order"], made["answer"], made["counts"], made["counts"][0]]
            before = [sys.getrefcount(value) for value in held]
            getattr(module, name)(*[made[parameter] for parameter in parameters])
            gc.collect()
            self.assertEqual([sys.getrefcount(value) for value in held], before, name)

    def test_wrong_arguments_are_not_kept(self):
        for module, name, _, arguments in FUNCTIONS:
            for at in range(len(arguments)):
                wrong = Held()
                gone = weakref.ref(wrong)
                try:
                    getattr(module, name)(*arguments[:at], (wrong,), *arguments[at + 1:])
                except WrapcountError:
                    pass
                del wrong
                gc.collect()
                self.assertIsNone(gone(), name)

    def test_results_do_not_depend_on_earlier_calls(self):
        for seed in range(30):
            network = drawn_network(seed)
            first = networks.groups(network), residues.group_sums(network)
            self.assertIs(networks.is_network((10, 3, (None,))), False)
            self.assertRaises(InvalidPlaces, networks.entering, network, [0])
            self.assertEqual((networks.groups(network), residues.group_sums(network)), first)

    def test_flows_and_reasons_do_not_depend_on_earlier_calls(self):
        seen = [self.outcomes(drawn_network(seed)) for seed in range(60)]
        self.assertEqual([self.outcomes(drawn_network(seed)) for seed in reversed(range(60))], seen[::-1])

    def outcomes(self, network):
        calls = [lambda: decisions.decide(network), lambda: ranges.ranges(network)]
        calls += [lambda pipe=pipe: ranges.greatest_count(network, pipe) for pipe in range(len(network[2]))]
        found = []
        for call in calls:
            try:
                found.append(call())
            except NoFlow as error:
                found.append(error.reason)
        return found

    def test_a_call_that_raises_has_no_other_effect(self):
        for wrong in ([5, 2, 2, 3], (5, 2, 2, 13), None):
            self.assertRaises(InvalidFlow, flows.check_flow, N, wrong)
            self.assertRaises(InvalidAnswer, decisions.check_decision, N, ("flow", wrong))
            self.assertRaises(InvalidAnswer, ranges.check_greatest, N, 0, (5, wrong, None))
            self.assertRaises(NetworkMismatch, variants.add_networks, N, (10, 3, ()))
            self.assertEqual(decisions.decide(N)[0], "flow")
            self.assertEqual(ranges.ranges(N), ((5, 95), (2, 2), (2, 2), (3, 93)))


class SetsOfPlaces(unittest.TestCase):
    def test_every_function_checks_sets_of_places_in_the_same_way(self):
        for value in NO_PLACES:
            for function in (networks.entering, networks.leaving, residues.excess):
                with self.assertRaises(InvalidPlaces) as caught:
                    function(N, value)
                self.assertIs(caught.exception.value, value)
        for places in ((), (0,), (0, 1), (0, 2), (1, 2), (0, 1, 2)):
            for function in (networks.entering, networks.leaving, residues.excess):
                function(N, places)


if __name__ == "__main__":
    unittest.main()
