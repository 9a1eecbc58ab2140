"""Tests of wrapcount.flows: point 15, and the errors of its functions."""

import unittest
from itertools import product

from tests.samples import HUGE, N, all_flows, drawn_network, flowing_network, is_plain_flow, large_network
from tests.samples import overfull_network, strange_values
from wrapcount.errors import InvalidFlow
from wrapcount.flows import check_flow, is_flow

TOP = 10 ** 12
FLOW = (15, 2, 2, 13)


class Flows(unittest.TestCase):
    def assertFlow(self, network, counts):
        self.assertIs(check_flow(network, counts), None)
        self.assertIs(is_flow(network, counts), True)

    def assertNoFlow(self, network, value, part, number=None):
        with self.assertRaises(InvalidFlow) as caught:
            check_flow(network, value)
        self.assertEqual((caught.exception.part, caught.exception.number), (part, number))
        self.assertIs(is_flow(network, value), False)


class Right(Flows):
    def test_ordinary(self):
        self.assertFlow(N, FLOW)
        self.assertFlow(N, (5, 2, 2, 3))
        self.assertFlow(N, (95, 2, 2, 93))

    def test_without_pipes(self):
        for places in (1, 24):
            self.assertFlow((10, places, ()), ())

    def test_counts_of_0_and_of_the_greatest_size(self):
        for modulus, meter, count in ((2, 0, 0), (2, 0, TOP), (2, 1, TOP - 1), (10 ** 6, 0, 0), (10 ** 6, 0, TOP),
                                      (10 ** 6, 999999, TOP - 1), (10 ** 6, 999999, 999999)):
            for low, high in ((0, TOP), (count, count), (0, count), (count, TOP)):
                pipe = (low, high, meter)
                self.assertFlow((modulus, 2, ((0, 1) + pipe, (1, 0) + pipe)), (count, count))

    def test_pipes_without_a_meter(self):
        self.assertFlow((10, 2, ((0, 1, 7, 7, None), (1, 0, 0, 9, None))), (7, 7))
        self.assertFlow((10, 3, ((0, 1, 0, TOP, None), (2, 1, 0, TOP, None), (0, 2, 0, 9, 0))), (0, 0, 0))
        self.assertFlow((10, 2, ((0, 1, 0, TOP, 3), (1, 0, 0, TOP, None))), (123456789123, 123456789123))

    def test_60_pipes_between_two_places(self):
        pipes = ((0, 1, 0, TOP, 5), (1, 0, 0, TOP, 5)) * 30
        self.assertFlow((10, 2, pipes), (5, 5) * 30)
        self.assertFlow((10, 2, pipes), (15, 25) * 15 + (25, 15) * 15)
        self.assertNoFlow((10, 2, pipes), (15, 25) * 15 + (25, 15) * 14 + (25, 25), "place", 0)

    def test_large_networks(self):
        for seed in range(40):
            network, counts = large_network(seed)
            self.assertFlow(network, counts)
            self.assertNoFlow(network, counts[:-1], "form")
            for at in range(0, 60, 7):
                changed = counts[:at] + (counts[at] + network[0],) + counts[at + 1:]
                if changed[at] > network[2][at][3]:
                    self.assertNoFlow(network, changed, "count", at)
                else:
                    self.assertNoFlow(network, changed, "place", min(network[2][at][:2]))


class Wrong(Flows):
    def test_form(self):
        for value in ((), (15,), (15, 2, 2), FLOW + (0,), list(FLOW), [], None, 15, "15", N, dict(enumerate(FLOW))):
            self.assertNoFlow(N, value, "form")
        self.assertNoFlow((10, 1, ()), (0,), "form")
        self.assertNoFlow((10, 1, ()), [], "form")
        self.assertNoFlow((10, 1, ()), None, "form")

    def test_count_below_low_and_above_high(self):
        network = (10, 2, ((0, 1, 15, 35, 5), (1, 0, 15, 35, 5)))
        for count in (15, 25, 35):
            self.assertFlow(network, (count, count))
        for count in (14, 36, 5, 45, 0, -1, -15, HUGE, -HUGE, 10 ** 999 + 5):
            self.assertNoFlow(network, (count, 25), "count", 0)
            self.assertNoFlow(network, (25, count), "count", 1)
            self.assertNoFlow(network, (count, count), "count", 0)

    def test_count_of_a_pipe_without_a_meter(self):
        network = (10, 2, ((0, 1, 7, 7, None), (1, 0, 5, 9, None)))
        for count in (6, 8, 17, -7):
            self.assertNoFlow(network, (count, 7), "count", 0)
        for count in (4, 10):
            self.assertNoFlow(network, (7, count), "count", 1)
        for count in (5, 6, 8, 9):
            self.assertNoFlow(network, (7, count), "place", 0)

    def test_count_of_another_residue(self):
        for count in (14, 16, 10, 20, 0, 1, 99):
            self.assertNoFlow(N, (count, 2, 2, 13), "meter", 0)
        for count in (12, 14, 0, 5):
            self.assertNoFlow(N, (15, 2, 2, count), "meter", 3)
        self.assertNoFlow((2, 2, ((0, 1, 0, 9, 0), (1, 0, 0, 9, 0))), (4, 5), "meter", 1)
        self.assertNoFlow((10 ** 6, 2, ((0, 1, 0, TOP, 999999), (1, 0, 0, TOP, 999999))), (TOP, TOP), "meter", 0)

    def test_place_that_does_not_balance(self):
        self.assertNoFlow(N, (15, 2, 2, 3), "place", 0)
        self.assertNoFlow(N, (5, 3, 2, 3), "place", 1)
        self.assertNoFlow((10, 4, ((2, 3, 0, 9, 5), (3, 2, 0, 9, None))), (5, 4), "place", 2)
        self.assertNoFlow((10, 24, ((23, 22, 0, 9, 5), (22, 23, 0, 99, 5))), (5, 15), "place", 22)
        self.assertNoFlow((10, 24, ((23, 22, 0, 9, 5), (22, 23, 0, 99, 5), (1, 0, 0, 9, 0))), (5, 15, 0), "place", 22)

    def test_a_place_with_too_much_and_one_with_too_little(self):
        pipe = (0, 1, 0, 9, 5)
        self.assertNoFlow((10, 2, (pipe,)), (5,), "place", 0)
        self.assertNoFlow((10, 3, ((2, 1, 0, 9, 5),)), (5,), "place", 1)
        self.assertNoFlow((10, 3, ((1, 2, 0, 9, 5),)), (5,), "place", 1)

    def test_order_of_the_faults(self):
        # The pipes in their order, the limits of each before its meter, and then the places.
        self.assertNoFlow(N, (100, 2, 2, 14), "count", 0)
        self.assertNoFlow(N, (14, 10, 2, 14), "meter", 0)
        self.assertNoFlow(N, (15, 10, 3, 14), "count", 1)
        self.assertNoFlow(N, (15, 9, 3, 100), "meter", 2)
        self.assertNoFlow(N, (15, 9, 2, 100), "count", 3)
        self.assertNoFlow(N, (15, 9, 2, 14), "meter", 3)
        self.assertNoFlow(N, (15, 9, 2, 13), "place", 1)
        self.assertNoFlow(N, (15, None, 2, 14), "count", 1)
        self.assertNoFlow(N, (16, None, 2, 14), "meter", 0)

    def test_items_of_other_kinds(self):
        for value in strange_values():
            for at in range(4):
                self.assertNoFlow(N, FLOW[:at] + (value,) + FLOW[at + 1:], "count", at)

    def test_values_of_other_kinds(self):
        for value in strange_values():
            if not isinstance(value, tuple) or len(value) != 4:
                self.assertNoFlow(N, value, "form")
            if not isinstance(value, tuple) or len(value) != 0:
                self.assertNoFlow((10, 3, ()), value, "form")
            network = (10, 3, N[2][:3])
            if isinstance(value, tuple) and len(value) == 3:
                self.assertNoFlow(network, value, "count", 0)

    def test_true_and_false_are_no_counts(self):
        network = (2, 2, ((0, 1, 0, 1, 1), (1, 0, 0, 1, 1)))
        self.assertFlow(network, (1, 1))
        self.assertNoFlow(network, (True, True), "count", 0)
        self.assertNoFlow(network, (1, True), "count", 1)
        self.assertNoFlow((2, 2, ((0, 1, 0, 0, None),)), (False,), "count", 0)

    def test_items_are_integers_whatever_the_limits_are(self):
        wide = (10, 2, ((0, 1, 0, TOP, None),))
        for count in (HUGE, -HUGE, TOP + 1, -1):
            self.assertNoFlow(wide, (count,), "count", 0)


class Definition(Flows):
    def test_agree_with_the_definition(self):
        seen = {True: 0, False: 0}
        for seed in range(200):
            for network in (drawn_network(seed), flowing_network(seed)):
                flows = all_flows(network)
                for counts in product(range(-1, 12), repeat=min(2, len(network[2]))):
                    # Around a flow where there is one, and around the lows where there is none.
                    base = list(flows[seed % len(flows)] if flows else [pipe[2] for pipe in network[2]])
                    base[:len(counts)] = counts
                    value = tuple(base)
                    self.assertEqual(is_flow(network, value), value in flows)
                    self.assertEqual(is_flow(network, value), is_plain_flow(network, value))
                    seen[value in flows] += 1
        self.assertGreater(min(seen.values()), 100)

    def test_all_flows_and_nothing_else(self):
        for seed in range(120):
            network = flowing_network(seed)
            self.assertGreater(len(all_flows(network)), 0)
            for counts in all_flows(network):
                self.assertFlow(network, counts)

    def test_no_counts_are_a_flow_of_a_network_without_one(self):
        for seed in range(20):
            network, _ = overfull_network(seed)
            for index in (2, 3):
                self.assertIs(is_flow(network, tuple(pipe[index] for pipe in network[2])), False)


if __name__ == "__main__":
    unittest.main()
