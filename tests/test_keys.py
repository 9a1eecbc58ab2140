"""Tests of wrapcount.keys: points 45 to 47, and the errors of its functions."""

import unittest

from tests.samples import HUGE, N, N_EXCESS, N_OFF, all_pipe_sets, closes_ring, crossing, crowded, draws, is_plain_flow
from tests.samples import is_plain_key, large_network, nested, overfull_network, plain_loose, reach, shuffled
from tests.samples import small_networks, strange_values
from wrapcount.decisions import check_decision
from wrapcount.errors import InvalidAnswer, InvalidPipes, InvalidWeights, NoFlow
from wrapcount.keys import cheapest_key, check_cheapest_key, flow_by_key, is_key, loose_pipes
from wrapcount.ranges import ranges

TOP = 10 ** 12
MOST = 10 ** 6
COSTS = (5, 1, 1, 2)
NO_COUNT = (10, 2, ((0, 1, 16, 18, 5), (1, 0, 0, 99, 5)))
ONE_FLOW = (10, 2, ((0, 1, 7, 7, None), (1, 0, 0, 9, None)))
WITHOUT = ((N_OFF, "sum"), (NO_COUNT, "pipe"), (N_EXCESS, "places"))
# Three loose pipes between two places, and one that is not loose.
THREE = (10, 2, ((0, 1, 0, 99, 0), (1, 0, 0, 99, 0), (0, 1, 0, 99, 0), (0, 1, 0, 9, 0)))
PARALLEL = (10, 2, ((0, 1, 0, TOP, 5), (1, 0, 0, TOP, 5)) * 30)


def flowing(many):
    return [(network, flows) for network, flows in small_networks(many) if flows]


def large_networks(many):
    return [large_network(seed)[0] for seed in range(many)]


def drawn_costs(many, seed):
    draw = draws(seed + 9000)
    return [tuple(draw(1, most) for _ in range(many)) for most in (2, 9, MOST)]


def drawn_key(network, seed):
    """Returns a key: every loose pipe that would close a ring outside it, and some others."""
    draw = draws(seed + 7000)
    outside, key = [], []
    for index in shuffled(loose_pipes(network), draw):
        pipes = [network[2][other] for other in outside + [index]]
        (key if closes_ring(network[1], pipes) else outside).append(index)
    more = [index for index in range(len(network[2])) if draw(0, 3) == 0]
    return tuple(sorted(set(key + more)))


class Loose(unittest.TestCase):
    def test_ordinary(self):
        self.assertEqual(loose_pipes(N), (0, 3))
        self.assertEqual(loose_pipes(THREE), (0, 1, 2))
        self.assertEqual(loose_pipes(ONE_FLOW), ())

    def test_edges(self):
        for places in (1, 24):
            self.assertEqual(loose_pipes((10, places, ())), ())
        self.assertEqual(loose_pipes(PARALLEL), tuple(range(60)))
        self.assertEqual(loose_pipes((10, 2, ((0, 1, 0, TOP, 0), (0, 1, 0, TOP, None)))), ())
        self.assertEqual(loose_pipes((10, 2, ((0, 1, TOP - 9, TOP, 0), (1, 0, 0, TOP, None)))), ())
        self.assertEqual(loose_pipes((10, 2, ((0, 1, TOP - 10, TOP, 0), (1, 0, 0, TOP, None)))), (0, 1))
        self.assertEqual(loose_pipes((2, 2, ((0, 1, 0, TOP, 1), (1, 0, 0, TOP, None)))), (0, 1))

    def test_agrees_with_a_search_through_all_flows(self):
        for network, flows in flowing(150):
            self.assertEqual(loose_pipes(network), plain_loose(flows))

    def test_agrees_with_the_ranges_of_large_networks(self):
        for network in large_networks(30):
            expected = tuple(pipe for pipe, (least, most) in enumerate(ranges(network)) if least < most)
            self.assertEqual(loose_pipes(network), expected)


class Keys(unittest.TestCase):
    def test_ordinary(self):
        self.assertIs(is_key(N, (0,)), True)
        self.assertIs(is_key(N, (3,)), True)
        self.assertIs(is_key(N, (0, 1, 2, 3)), True)
        self.assertIs(is_key(N, ()), False)
        self.assertIs(is_key(N, (1, 2)), False)

    def test_three_pipes_between_two_places(self):
        for pipes in ((0, 1), (0, 2), (1, 2), (0, 1, 2), (1, 2, 3)):
            self.assertIs(is_key(THREE, pipes), True)
        for pipes in ((), (0,), (1,), (2,), (3,), (0, 3), (2, 3)):
            self.assertIs(is_key(THREE, pipes), False)

    def test_edges(self):
        self.assertIs(is_key((10, 1, ()), ()), True)
        self.assertIs(is_key((10, 24, ()), ()), True)
        self.assertIs(is_key(ONE_FLOW, ()), True)
        self.assertIs(is_key(PARALLEL, tuple(range(59))), True)
        self.assertIs(is_key(PARALLEL, tuple(range(1, 60))), True)
        self.assertIs(is_key(PARALLEL, tuple(range(58))), False)
        self.assertIs(is_key(PARALLEL, tuple(range(60))), True)

    def test_agrees_with_the_definition_for_all_sets(self):
        seen = {True: 0, False: 0}
        for network, flows in flowing(60):
            loose = plain_loose(flows)
            for pipes in all_pipe_sets(network):
                expected = is_plain_key(network, loose, pipes)
                self.assertIs(is_key(network, pipes), expected)
                seen[expected] += 1
        self.assertGreater(min(seen.values()), 100)

    def test_flows_with_the_same_counts_at_a_key_are_equal(self):
        for network, flows in flowing(60):
            for pipes in all_pipe_sets(network):
                if is_key(network, pipes):
                    self.assertEqual(len({tuple(flow[pipe] for pipe in pipes) for flow in flows}), len(flows))

    def test_large_networks(self):
        for seed, network in enumerate(large_networks(20)):
            key = drawn_key(network, seed)
            self.assertIs(is_key(network, key), True)
            loose = loose_pipes(network)
            for pipe in key[::5]:
                fewer = tuple(other for other in key if other != pipe)
                self.assertIs(is_key(network, fewer), is_plain_key(network, loose, fewer))

    def test_values_that_are_no_sets_of_pipes(self):
        wrong = strange_values() + [[], [0], (1, 0), (0, 0), (4,), (0, 4), (-1,), (-1, 0), (HUGE,), (-HUGE,), HUGE, 0,
                                    (0, None), (0, True), (0, (1,)), (0, "1"), (crowded(3),), (0, crowded(5))]
        for value in wrong:
            for network in (N, N_OFF, N_EXCESS):
                with self.assertRaises(InvalidPipes) as caught:
                    is_key(network, value)
                self.assertIs(caught.exception.value, value)
        for value in ((0,), [], (60,)):
            self.assertRaises(InvalidPipes, is_key, (10, 1, ()), value)
        self.assertRaises(InvalidPipes, is_key, PARALLEL, (60,))

    def test_no_flow(self):
        for network, word in WITHOUT:
            for call in (lambda: loose_pipes(network), lambda: is_key(network, ()), lambda: is_key(network, (0, 1)),
                         lambda: flow_by_key(network, ()), lambda: flow_by_key(network, ((0, 5),))):
                with self.assertRaises(NoFlow) as caught:
                    call()
                self.assertEqual(check_decision(network, caught.exception.reason), word)
        network, _ = overfull_network(3)
        for call in (loose_pipes, lambda network: is_key(network, (0, 59))):
            self.assertRaises(NoFlow, call, network)


class FlowsByKeys(unittest.TestCase):
    def test_ordinary(self):
        self.assertEqual(flow_by_key(N, ((0, 15),)), (15, 2, 2, 13))
        self.assertEqual(flow_by_key(N, ((3, 93),)), (95, 2, 2, 93))
        self.assertEqual(flow_by_key(N, ((0, 25), (3, 23))), (25, 2, 2, 23))
        self.assertEqual(flow_by_key(N, ((0, 25), (1, 2), (2, 2), (3, 23))), (25, 2, 2, 23))
        self.assertEqual(flow_by_key(ONE_FLOW, ()), (7, 7))
        self.assertEqual(flow_by_key((10, 1, ()), ()), ())

    def test_counts_that_fit_no_flow(self):
        for counts in (((0, 16),), ((0, 105),), ((0, -5),), ((0, HUGE),), ((3, -HUGE),), ((0, 15), (3, 23)), ((3, 103),),
                       ((0, 15), (1, 3)), ((0, 15), (1, 12)), ((0, 15), (2, 12)), ((0, 5), (1, 2), (2, 2), (3, 13)),
                       ((0, 0),), ((0, 15), (1, HUGE))):
            self.assertIs(flow_by_key(N, counts), None)
        for counts in (((0, 8),), ((0, 17),), ((0, 8), (1, 8)), ((1, HUGE),)):
            self.assertIs(flow_by_key(ONE_FLOW, counts), None)

    def test_counts_of_the_greatest_size(self):
        network = (2, 2, ((0, 1, 0, TOP, 0), (1, 0, 0, TOP, 0), (0, 1, 0, TOP, None)))
        self.assertEqual(flow_by_key(network, ((0, TOP - 2), (1, TOP))), (TOP - 2, TOP, 2))
        self.assertEqual(flow_by_key(network, ((0, 0), (2, TOP))), (0, TOP, TOP))
        self.assertIs(flow_by_key(network, ((0, TOP), (2, 2))), None)
        self.assertIs(flow_by_key(network, ((0, 2), (2, 1))), None)

    def test_every_flow_by_every_key(self):
        for network, flows in flowing(60):
            for pipes in all_pipe_sets(network):
                if is_plain_key(network, plain_loose(flows), pipes):
                    for flow in flows[:5]:
                        self.assertEqual(flow_by_key(network, tuple((pipe, flow[pipe]) for pipe in pipes)), flow)

    def test_counts_near_those_of_flows(self):
        for network, flows in flowing(80):
            by_counts = {}
            loose = plain_loose(flows)
            keys = [pipes for pipes in all_pipe_sets(network) if is_plain_key(network, loose, pipes)]
            for pipes in keys[:6]:
                by_counts = {tuple(flow[pipe] for pipe in pipes): flow for flow in flows}
                for flow in flows[:3]:
                    for pipe in pipes:
                        for change in (-network[0], -1, 1, network[0]):
                            near = tuple(flow[at] + change * (at == pipe) for at in pipes)
                            told = tuple(zip(pipes, near))
                            self.assertEqual(flow_by_key(network, told), by_counts.get(near))

    def test_large_networks(self):
        for seed in range(20):
            network, flow = large_network(seed)
            key = drawn_key(network, seed)
            counts = tuple((pipe, flow[pipe]) for pipe in key)
            self.assertEqual(flow_by_key(network, counts), flow)
            changed = [(pipe, count + network[0] * (at % 7 == 0)) for at, (pipe, count) in enumerate(counts)]
            found = flow_by_key(network, tuple(changed))
            if found is not None:
                self.assertTrue(is_plain_flow(network, found))
                self.assertEqual([found[pipe] for pipe in key], [count for _, count in changed])

    def test_values_that_are_no_counts(self):
        pairs = [((0, 15), (0, 15)), ((3, 3), (0, 5)), ((4, 5),), ((-1, 5),), ((0, 15, 2),), ((0,),), ([0, 15],),
                 ((0, None),), ((0, "5"),), ((0, True),), ((False, 5),), ((0, 5), (True, 2)), ((0, 5), None), ((),),
                 ((None, 5),), ((HUGE, 5),), (0, 5), [(0, 15)], {0: 15}, ((0, (15,)),), ((0, [15]),), None, 0, HUGE,
                 ((0, crowded(2)),), ((crowded(2), 0),), (crowded(2),), ((0, 15), crowded(3))]
        for value in pairs + [value for value in strange_values()]:
            for network in (N, N_OFF, N_EXCESS):
                with self.assertRaises(InvalidPipes) as caught:
                    flow_by_key(network, value)
                self.assertIs(caught.exception.value, value)
        for value in strange_values():
            for wrong in (((0, value),), ((value, 5),), ((0, 5), (value, 2)), ((0, 5), value), (value, (3, 3))):
                with self.assertRaises(InvalidPipes) as caught:
                    flow_by_key(N, wrong)
                self.assertIs(caught.exception.value, wrong)

    def test_pipes_that_are_not_a_key(self):
        for value in ((), ((1, 2),), ((2, 2),), ((1, 2), (2, 2)), ((1, HUGE),)):
            with self.assertRaises(InvalidPipes) as caught:
                flow_by_key(N, value)
            self.assertIs(caught.exception.value, value)
        # Before that, there has to be a flow.
        for network, _ in WITHOUT:
            self.assertRaises(NoFlow, flow_by_key, network, ())
        for network, flows in flowing(40):
            for pipes in all_pipe_sets(network):
                if not is_plain_key(network, plain_loose(flows), pipes):
                    self.assertRaises(InvalidPipes, flow_by_key, network, tuple((pipe, flows[0][pipe]) for pipe in pipes))


class CheapestKeys(unittest.TestCase):
    def assertCheapest(self, network, costs, expected=None):
        """Asserts [47] for the answer, whatever key it has. Returns the answer."""
        answer = cheapest_key(network, costs)
        self.assertIs(type(answer), tuple)
        cost, key = answer
        loose = loose_pipes(network)
        self.assertEqual(key, tuple(sorted(set(key) & set(loose))))
        self.assertEqual(cost, sum(costs[pipe] for pipe in key))
        outside = [pipe for pipe in loose if pipe not in key]
        self.assertFalse(closes_ring(network[1], [network[2][pipe] for pipe in outside]))
        for pipe in key:
            source, target = network[2][pipe][:2]
            # The ring that the pipe closes: without any pipe of it, the others do not join its ends.
            links = [network[2][other] for other in outside]
            self.assertIn(target, reach(links, source))
            for other in outside:
                fewer = [network[2][at] for at in outside if at != other]
                if target not in reach(fewer, source):
                    self.assertGreaterEqual(costs[other], costs[pipe])
        self.assertEqual(check_cheapest_key(network, costs, answer), cost)
        if expected is not None:
            self.assertEqual(cost, expected)
        return answer

    def assertWrong(self, network, costs, answer, part):
        with self.assertRaises(InvalidAnswer) as caught:
            check_cheapest_key(network, costs, answer)
        self.assertEqual(caught.exception.part, part)

    def test_ordinary(self):
        self.assertEqual(cheapest_key(N, COSTS), (2, (3,)))
        self.assertEqual(cheapest_key(N, (1, 1, 1, 2)), (1, (0,)))
        self.assertEqual(cheapest_key(THREE, (3, 1, 2, 9)), (3, (1, 2)))
        self.assertCheapest(N, (7, 1, 1, 7), 7)

    def test_costs_of_the_least_and_the_greatest_size(self):
        for cost in (1, MOST):
            self.assertCheapest(N, (cost,) * 4, cost)
            self.assertCheapest(PARALLEL, (cost,) * 60, 59 * cost)
        self.assertEqual(cheapest_key(PARALLEL, (1,) * 59 + (MOST,)), (59, tuple(range(59))))
        self.assertEqual(cheapest_key(PARALLEL, (MOST,) * 60)[0], 59 * MOST)

    def test_edges(self):
        for places in (1, 24):
            self.assertEqual(cheapest_key((10, places, ()), ()), (0, ()))
        self.assertEqual(cheapest_key(ONE_FLOW, (MOST, 1)), (0, ()))
        self.assertCheapest(crossing(2, 59), tuple(range(1, 61)), sum(range(1, 59)))

    def test_agrees_with_a_search_through_all_sets(self):
        many = 0
        for seed, (network, flows) in enumerate(flowing(60)):
            loose = plain_loose(flows)
            keys = [pipes for pipes in all_pipe_sets(network) if is_plain_key(network, loose, pipes)]
            for costs in drawn_costs(len(network[2]), seed):
                least = min(sum(costs[pipe] for pipe in pipes) for pipes in keys)
                self.assertCheapest(network, costs, least)
                for pipes in all_pipe_sets(network):
                    cost = sum(costs[pipe] for pipe in pipes)
                    if pipes not in keys or not set(pipes) <= set(loose):
                        self.assertWrong(network, costs, (cost, pipes), "key")
                    elif cost > least:
                        self.assertWrong(network, costs, (cost, pipes), "cost")
                        self.assertWrong(network, costs, (least, pipes), "cost")
                    else:
                        self.assertEqual(check_cheapest_key(network, costs, (cost, pipes)), cost)
                        self.assertWrong(network, costs, (cost + 1, pipes), "cost")
                        many += 1
        self.assertGreater(many, 100)

    def test_large_networks(self):
        for seed, network in enumerate(large_networks(8)):
            for costs in drawn_costs(60, seed):
                cost, key = self.assertCheapest(network, costs)
                other = tuple(pipe for pipe in drawn_key(network, seed) if pipe in loose_pipes(network))
                dearer = sum(costs[pipe] for pipe in other)
                self.assertGreaterEqual(dearer, cost)
                if dearer > cost:
                    self.assertWrong(network, costs, (dearer, other), "cost")
                if key:
                    self.assertWrong(network, costs, (cost, key[:-1]), "key")
                    self.assertWrong(network, costs, (cost - 1, key), "cost")

    def test_wrong_costs(self):
        for network in (N, N_OFF, N_EXCESS):
            calls = [lambda costs: cheapest_key(network, costs), lambda costs: check_cheapest_key(network, costs, None)]
            for costs in ([1] * 4, (1,) * 3, (1,) * 5, (), None, 1, HUGE, crowded(3), "1111", {0: 1}):
                for call in calls:
                    with self.assertRaises(InvalidWeights) as caught:
                        call(costs)
                    self.assertIs(caught.exception.position, None)
            for value in strange_values() + [0, -1, MOST + 1, -MOST, HUGE, -HUGE]:
                for at in range(4):
                    for costs in ((1,) * at + (value,) + (1,) * (3 - at), (MOST,) * at + (value,) * (4 - at)):
                        for call in calls:
                            with self.assertRaises(InvalidWeights) as caught:
                                call(costs)
                            self.assertEqual(caught.exception.position, at)

    def test_no_flow(self):
        for network, word in WITHOUT:
            costs = (1,) * len(network[2])
            for call in (lambda: cheapest_key(network, costs), lambda: check_cheapest_key(network, costs, None),
                         lambda: check_cheapest_key(network, costs, (1, (0,)))):
                with self.assertRaises(NoFlow) as caught:
                    call()
                self.assertEqual(check_decision(network, caught.exception.reason), word)

    def test_form_of_the_answer(self):
        for answer in (None, (), (2,), (2, (3,), 0), [2, (3,)], "ab", 2, {0: 2, 1: 3}):
            self.assertWrong(N, COSTS, answer, "form")
        for value in strange_values():
            if not isinstance(value, tuple) or len(value) != 2:
                self.assertWrong(N, COSTS, value, "form")

    def test_wrong_keys(self):
        for key in ((), (1,), (2,), (1, 2), (0, 1), (2, 3), (0, 1, 2, 3), (4,), (-1,), (3, 0), (3, 3), [3], 3, HUGE):
            for cost in (2, None, True):
                self.assertWrong(N, COSTS, (cost, key), "key")
        for value in strange_values():
            self.assertWrong(N, COSTS, (2, value), "key")
            self.assertWrong(N, COSTS, (value, value), "key")
            self.assertWrong(N, COSTS, (2, (value,)), "key")
            self.assertWrong(N, COSTS, (2, (0, value)), "key")
            if value != () if isinstance(value, tuple) else True:
                self.assertWrong((10, 1, ()), (), (0, value), "key")

    def test_wrong_costs_in_the_answer(self):
        self.assertWrong(N, COSTS, (5, (0,)), "cost")
        self.assertWrong(N, COSTS, (2, (0,)), "cost")
        self.assertWrong(N, COSTS, (7, (0, 3)), "cost")
        for cost in (0, 1, 3, 5, -2, HUGE, -HUGE):
            self.assertWrong(N, COSTS, (cost, (3,)), "cost")
        for value in strange_values():
            self.assertWrong(N, COSTS, (value, (3,)), "cost")
        self.assertWrong(N, (1, 1, 1, 1), (True, (3,)), "cost")
        self.assertWrong(ONE_FLOW, (1, 1), (False, ()), "cost")
        self.assertEqual(check_cheapest_key(N, (1, 1, 1, 1), (1, (3,))), 1)
        self.assertEqual(check_cheapest_key(N, (1, 1, 1, 1), (1, (0,))), 1)

    def test_values_are_not_visited(self):
        for deep in (crowded(2), crowded(5), crowded(90), nested(97, lambda value: [value])):
            self.assertWrong(N, COSTS, (deep, (3,)), "cost")
            self.assertWrong(N, COSTS, (2, deep), "key")
            self.assertWrong(N, COSTS, (2, (3, deep)), "key")
            self.assertRaises(InvalidPipes, flow_by_key, N, ((0, deep),))
            self.assertRaises(InvalidPipes, is_key, N, (0, deep))


if __name__ == "__main__":
    unittest.main()
