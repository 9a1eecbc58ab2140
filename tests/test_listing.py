"""Tests of wrapcount.listing: all flows in ascending order, their ranks, and the errors of its functions."""

import unittest
from itertools import combinations, product

from tests.samples import HUGE, N, N_EXCESS, N_OFF, crossing, crowded, drawn_network, is_plain_flow, large_network
from tests.samples import overfull_network, single_rings, small_networks, strange_values
from wrapcount.errors import InvalidFlow, InvalidRank, LimitExceeded
from wrapcount.flows import check_flow
from wrapcount.listing import MAX_LISTED, count_flows, flow_by_rank, list_flows, rank_of_flow
from wrapcount.ranges import ranges

TOP = 10 ** 12
NO_COUNT = (10, 2, ((0, 1, 16, 18, 5), (1, 0, 0, 99, 5)))
WITHOUT = (N_OFF, NO_COUNT, N_EXCESS)
THREE = (10, 2, ((0, 1, 0, 25, 5), (1, 0, 0, 99, 5)))
FUNCTIONS = [list_flows, count_flows, lambda network: flow_by_rank(network, 0),
             lambda network: rank_of_flow(network, (0,) * len(network[2]))]


class Lists(unittest.TestCase):
    def assertFlows(self, network, expected):
        found = list_flows(network)
        self.assertIs(type(found), list)
        self.assertEqual(found, expected)
        self.assertEqual(count_flows(network), len(expected))
        many = len(expected)
        for rank in sorted({0, 1, many // 2, many - 2, many - 1} & set(range(many))):
            self.assertEqual(flow_by_rank(network, rank), expected[rank])
            self.assertEqual(rank_of_flow(network, expected[rank]), rank)
        for rank in (-1, many, many + 1, -many):
            if not 0 <= rank < many:
                self.assertRaises(InvalidRank, flow_by_rank, network, rank)

    def assertTooMany(self, network):
        for function in FUNCTIONS:
            with self.assertRaises(LimitExceeded) as caught:
                function(network)
            self.assertEqual(caught.exception.limit, 500)

    def test_limit(self):
        self.assertEqual(MAX_LISTED, 500)

    def test_ordinary(self):
        self.assertFlows(THREE, [(5, 5), (15, 15), (25, 25)])
        self.assertFlows(N, [(count, 2, 2, count - 2) for count in range(5, 105, 10)])

    def test_networks_with_exactly_one_flow(self):
        for places in (1, 24):
            self.assertFlows((10, places, ()), [()])
        self.assertFlows((10, 2, ((0, 1, 7, 7, None), (1, 0, 0, 9, None))), [(7, 7)])
        self.assertFlows((10, 2, ((0, 1, 0, TOP, 0), (0, 1, 0, TOP, None))), [(0, 0)])
        self.assertFlows((10, 2, ((0, 1, TOP, TOP, 0), (1, 0, 0, TOP, 0))), [(TOP, TOP)])
        self.assertFlows((10, 2, tuple((0, 1, 0, TOP, 0) for _ in range(60))), [(0,) * 60])

    def test_networks_without_a_flow(self):
        for network in WITHOUT + (overfull_network(5)[0],):
            self.assertFlows(network, [])
            for counts in ((0,) * len(network[2]), (5,) * len(network[2])):
                self.assertRaises(InvalidFlow, rank_of_flow, network, counts)

    def test_the_first_pipe_decides_on_the_order(self):
        # The second pipe can have less only if the first one has more.
        network = (10, 2, ((0, 1, 0, 20, 0), (0, 1, 0, 20, 0), (1, 0, 20, 20, 0)))
        self.assertFlows(network, [(0, 20, 20), (10, 10, 20), (20, 0, 20)])
        network = (10, 2, ((1, 0, 20, 20, 0), (0, 1, 0, 20, 0), (0, 1, 0, 20, 0)))
        self.assertFlows(network, [(20, 0, 20), (20, 10, 10), (20, 20, 0)])

    def test_two_rings_that_share_a_pipe(self):
        pipes = ((0, 1, 0, 29, 1), (1, 0, 0, 29, 0), (1, 0, 0, 29, None))
        expected = [(total, left, total - left) for total in (1, 11, 21) for left in range(0, total + 1, 10)]
        self.assertFlows((10, 2, pipes), expected)

    def test_499_500_and_501_flows(self):
        for many in (499, 500):
            network = (10, 2, ((0, 1, 0, 10 * many - 1, 3), (1, 0, 0, TOP, None)))
            self.assertFlows(network, [(count, count) for count in range(3, 10 * many, 10)])
        self.assertTooMany((10, 2, ((0, 1, 0, 5009, 3), (1, 0, 0, TOP, None))))
        # Exactly 500 and 501 counts with the residue.
        self.assertEqual(count_flows((10, 2, ((0, 1, 3, 5002, 3), (1, 0, 0, TOP, None)))), 500)
        self.assertTooMany((10, 2, ((0, 1, 3, 5003, 3), (1, 0, 0, TOP, None))))

    def test_499_500_and_501_flows_on_several_rings(self):
        one = single_rings(1, 19)[2]
        for first, second, many in ((19, 24, 500), (4, 99, 500), (0, 498, 499), (249, 1, 500)):
            pipes = single_rings(1, first)[2] + ((2, 3, 0, 10 * second + 9, 3), (3, 2, 0, TOP, None))
            expected = [(10 * left + 3,) * 2 + (10 * right + 3,) * 2
                        for left in range(first + 1) for right in range(second + 1)]
            self.assertEqual(len(expected), many)
            self.assertFlows((10, 4, pipes), expected)
        for second in (25, 26, 10 ** 9):
            self.assertTooMany((10, 4, one + ((2, 3, 0, 10 * second + 9, 3), (3, 2, 0, TOP, None))))
        self.assertTooMany((10, 6, single_rings(3, 7)[2]))
        self.assertTooMany((10, 4, ((2, 3, 0, 10 * 166 + 9, 3), (3, 2, 0, TOP, None)) + single_rings(1, 2)[2]))

    def test_many_rings(self):
        self.assertFlows(single_rings(8, 1), [
            tuple(10 * wraps + 3 for wraps in chosen for _ in range(2)) for chosen in product(range(2), repeat=8)
        ])
        self.assertTooMany(single_rings(9, 1))
        self.assertTooMany(single_rings(12, 1))
        self.assertEqual(count_flows(single_rings(12, 0)), 1)

    def test_choices_of_two_pipes(self):
        for many in (2, 5, 32):
            expected = sorted(
                tuple(10 * (at in chosen) for at in range(many)) + (20,) for chosen in combinations(range(many), 2)
            )
            self.assertFlows(crossing(2, many), expected)
        self.assertEqual(count_flows(crossing(2, 32)), 496)
        self.assertTooMany(crossing(2, 33))
        self.assertEqual(count_flows(crossing(1, 59)), 59)
        self.assertEqual(count_flows(crossing(58, 59)), 59)
        self.assertEqual(count_flows(crossing(59, 59)), 1)
        self.assertTooMany(crossing(30, 59))

    def test_very_many_flows(self):
        for modulus in (2, 10 ** 6):
            self.assertTooMany((modulus, 2, ((0, 1, 0, TOP, 1), (1, 0, 0, TOP, None))))
            self.assertTooMany((modulus, 2, ((0, 1, 0, TOP, 0), (1, 0, 0, TOP, 0)) * 30))
        chain = tuple((place, place + 1, 0, TOP, 0) for place in range(23))
        self.assertTooMany((10, 24, chain + ((23, 0, 0, TOP, None),)))

    def test_counts_of_the_greatest_size(self):
        network = (2, 2, ((0, 1, TOP - 6, TOP, 0), (1, 0, 0, TOP, None)))
        self.assertFlows(network, [(count, count) for count in range(TOP - 6, TOP + 1, 2)])
        network = (10 ** 6, 2, ((0, 1, 0, 499 * 10 ** 6, 0), (1, 0, 0, TOP, None)))
        self.assertFlows(network, [(count * 10 ** 6,) * 2 for count in range(500)])

    def test_agree_with_a_search(self):
        many = 0
        for network, flows in small_networks(250):
            if len(flows) > 500:
                self.assertTooMany(network)
            else:
                self.assertFlows(network, flows)
                many += len(flows) > 2
        self.assertGreater(many, 50)

    def test_every_rank(self):
        for network, flows in small_networks(40):
            for rank, flow in enumerate(flows[:60]):
                self.assertEqual(flow_by_rank(network, rank), flow)
                self.assertEqual(rank_of_flow(network, flow), rank)

    def test_large_networks(self):
        seen = 0
        for seed in range(50):
            network, flow = large_network(seed)
            spans = ranges(network)
            try:
                found = list_flows(network)
            except LimitExceeded:
                self.assertTooMany(network)
                continue
            self.assertIn(flow, found)
            self.assertEqual(found, sorted(set(found)))
            for one in found[::25] + found[-1:]:
                self.assertTrue(is_plain_flow(network, one))
            # By [25] all counts from the least to the greatest are there.
            for (least, most), column in zip(spans, zip(*found)):
                self.assertEqual(sorted(set(column)), list(range(least, most + 1, network[0])))
            self.assertEqual(rank_of_flow(network, flow), found.index(flow))
            seen += len(found) > 0
        self.assertGreater(seen, 5)

    def test_large_networks_with_several_flows(self):
        for seed in range(12):
            (modulus, _, pipes), flow = large_network(seed)
            # Only a closed walk of five pipes and a few others have room for another count.
            free = [at for at in range(60) if at // 5 == seed or at % 13 == seed]
            narrow = [
                pipe[:2] + ((max(0, count - modulus), min(TOP, count + modulus)) if at in free else (count, count))
                + (count % modulus,)
                for at, (pipe, count) in enumerate(zip(pipes, flow))
            ]
            expected = []
            for chosen in product((-modulus, 0, modulus), repeat=len(free)):
                one = list(flow)
                for at, change in zip(free, chosen):
                    one[at] += change
                if all(narrow[at][2] <= one[at] <= narrow[at][3] for at in free) and balanced(pipes, free, chosen):
                    expected.append(tuple(one))
            self.assertFlows((modulus, 24, tuple(narrow)), expected)


def balanced(pipes, free, changes):
    """Tells whether the changes of these pipes cancel each other at all places."""
    balances = [0] * 24
    for at, change in zip(free, changes):
        balances[pipes[at][1]] += change
        balances[pipes[at][0]] -= change
    return not any(balances)


class Results(unittest.TestCase):
    def test_modifying_a_list_has_no_effect_on_later_calls(self):
        for change in (lambda found: found.clear(), lambda found: found.append(None), lambda found: found.reverse()):
            found = list_flows(THREE)
            change(found)
            self.assertEqual(list_flows(THREE), [(5, 5), (15, 15), (25, 25)])
            self.assertEqual(count_flows(THREE), 3)
            self.assertEqual(flow_by_rank(THREE, 0), (5, 5))
        found = list_flows(NO_COUNT)
        found.append(None)
        self.assertEqual(list_flows(NO_COUNT), [])

    def test_kinds(self):
        self.assertIs(type(count_flows(N)), int)
        self.assertIs(type(rank_of_flow(N, (15, 2, 2, 13))), int)
        for flow in list_flows(N) + [flow_by_rank(N, 3)]:
            self.assertEqual([type(flow)] + [type(count) for count in flow], [tuple] + [int] * 4)


class Errors(unittest.TestCase):
    def test_ranks(self):
        for network, many in ((N, 10), (THREE, 3), ((10, 1, ()), 1), (N_OFF, 0), (NO_COUNT, 0), (N_EXCESS, 0)):
            for rank in strange_values() + [-1, many, many + 1, -many - 1, HUGE, -HUGE, (0,), [0]]:
                with self.assertRaises(InvalidRank) as caught:
                    flow_by_rank(network, rank)
                self.assertIs(caught.exception.value, rank)

    def test_values_that_are_no_flows(self):
        wrong = [(), (5, 2, 2), (5, 2, 2, 3, 3), [5, 2, 2, 3], (15, 2, 2, 3), (105, 2, 2, 103), (6, 2, 2, 4),
                 (5, True, 2, 3), (5, 2, None, 3), (5, 2, 2, HUGE), (-5, 2, 2, -7), None, 5, crowded(4)]
        for value in wrong + strange_values():
            fields = []
            for call in (lambda: check_flow(N, value), lambda: rank_of_flow(N, value)):
                with self.assertRaises(InvalidFlow) as caught:
                    call()
                fields.append((caught.exception.part, caught.exception.number))
            self.assertEqual(fields[0], fields[1])
        for seed in range(60):
            network = drawn_network(seed)
            for value in ((0,) * len(network[2]), tuple(pipe[2] for pipe in network[2])):
                fields = []
                for function in (check_flow, rank_of_flow):
                    try:
                        function(network, value)
                        fields.append("flow")
                    except InvalidFlow as error:
                        fields.append((error.part, error.number))
                self.assertEqual(fields[0], fields[1])

    def test_too_many_flows_before_ranks_and_flows(self):
        network = (10, 2, ((0, 1, 0, TOP, 3), (1, 0, 0, TOP, None)))
        for value in strange_values() + [-1, 0, 1, HUGE, (3, 3), (3, 13)]:
            self.assertRaises(LimitExceeded, flow_by_rank, network, value)
            self.assertRaises(LimitExceeded, rank_of_flow, network, value)


if __name__ == "__main__":
    unittest.main()
