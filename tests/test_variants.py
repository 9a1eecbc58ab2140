"""Tests of wrapcount.variants: point 28, and the errors of its functions."""

import unittest
from itertools import permutations

from tests.samples import HUGE, N, all_flows, crowded, draws, drawn_network, flowing_network, is_plain_flow
from tests.samples import large_network, nested, plainly_open, shuffled, strange_values
from wrapcount.decisions import decide
from wrapcount.errors import InvalidOrder, NetworkMismatch
from wrapcount.flows import is_flow
from wrapcount.networks import check_network
from wrapcount.variants import add_networks, renumber_places, reverse_pipes

TOP = 10 ** 12


def drawn_networks(many):
    return [make(seed) for seed in range(many) for make in (drawn_network, flowing_network)]


class ReversePipes(unittest.TestCase):
    def test_ordinary(self):
        self.assertEqual(reverse_pipes((10, 2, ((0, 1, 0, 9, 5),))), (10, 2, ((1, 0, 0, 9, 5),)))
        self.assertEqual(reverse_pipes(N), (10, 3, (
            (1, 0, 0, 99, 5), (2, 1, 0, 9, None), (0, 2, 0, 99, 2), (0, 1, 0, 99, 3))))

    def test_without_pipes(self):
        for network in ((2, 1, ()), (10 ** 6, 24, ())):
            self.assertEqual(reverse_pipes(network), network)

    def test_keeps_the_flows(self):
        for network in drawn_networks(100):
            turned = reverse_pipes(network)
            check_network(turned)
            self.assertEqual(all_flows(turned), all_flows(network))
            self.assertEqual(decide(turned)[0], decide(network)[0])
            self.assertEqual(reverse_pipes(turned), network)

    def test_large_networks(self):
        for seed in range(20):
            network, flow = large_network(seed)
            self.assertTrue(is_plain_flow(reverse_pipes(network), flow))
            self.assertEqual([pipe[2:] for pipe in reverse_pipes(network)[2]], [pipe[2:] for pipe in network[2]])


class RenumberPlaces(unittest.TestCase):
    def assertNoOrder(self, network, order):
        with self.assertRaises(InvalidOrder) as caught:
            renumber_places(network, order)
        self.assertIs(caught.exception.value, order)

    def test_ordinary(self):
        self.assertEqual(renumber_places((10, 3, ((0, 1, 0, 9, 5),)), (2, 0, 1)), (10, 3, ((2, 0, 0, 9, 5),)))
        self.assertEqual(renumber_places(N, (1, 2, 0)), (10, 3, (
            (1, 2, 0, 99, 5), (2, 0, 0, 9, None), (0, 1, 0, 99, 2), (2, 1, 0, 99, 3))))

    def test_same_order(self):
        for network in (N, (10, 1, ()), (10, 24, ((23, 0, 0, TOP, None),))):
            self.assertEqual(renumber_places(network, tuple(range(network[1]))), network)

    def test_keeps_the_flows(self):
        for network in drawn_networks(40):
            flows = all_flows(network)
            for order in list(permutations(range(network[1])))[::7]:
                moved = renumber_places(network, order)
                check_network(moved)
                self.assertEqual(all_flows(moved), flows)
                self.assertEqual(decide(moved)[0], decide(network)[0])
                self.assertEqual([(order[pipe[0]], order[pipe[1]]) for pipe in network[2]],
                                 [pipe[:2] for pipe in moved[2]])
                back = tuple(order.index(place) for place in range(network[1]))
                self.assertEqual(renumber_places(moved, back), network)

    def test_large_networks(self):
        for seed in range(20):
            network, flow = large_network(seed)
            order = tuple(shuffled(range(24), draws(seed)))
            self.assertTrue(is_plain_flow(renumber_places(network, order), flow))

    def test_no_order(self):
        for order in ((), (0,), (0, 1), (0, 1, 2, 3), (0, 0, 1), (0, 1, 1), (2, 2, 2), (1, 2, 3), (0, 1, 3),
                      (-1, 0, 1), (0, 1, -1), (0, 1, HUGE), (-HUGE, 1, 2), [0, 1, 2], (0, 1, [2]), None, 3, "012",
                      (0, 1, None), (0, 1, "2"), {0: 0, 1: 1, 2: 2}, range(3), (0, True, 2), (False, 1, 2)):
            self.assertNoOrder(N, order)
        self.assertNoOrder((10, 1, ()), (False,))
        self.assertNoOrder((10, 2, ()), (0, True))
        self.assertNoOrder((10, 24, ()), tuple(range(23)) + (0,))
        self.assertNoOrder((10, 24, ()), tuple(range(25)))

    def test_values_of_other_kinds(self):
        for value in strange_values() + [nested(100, lambda value: (value,))]:
            self.assertNoOrder(N, value)
            self.assertNoOrder((10, 1, ()), value)
            for at in range(3):
                order = (2, 0, 1)[:at] + (value,) + (2, 0, 1)[at + 1:]
                self.assertNoOrder(N, order)


class AddNetworks(unittest.TestCase):
    def assertMismatch(self, one, other, index):
        for pair in ((one, other), (other, one)):
            with self.assertRaises(NetworkMismatch) as caught:
                add_networks(*pair)
            self.assertEqual(caught.exception.index, index)

    def test_ordinary(self):
        one, other = (10, 2, ((0, 1, 0, 9, 5),)), (10, 2, ((0, 1, 7, 20, 8),))
        self.assertEqual(add_networks(one, other), (10, 2, ((0, 1, 7, 29, 3),)))
        self.assertEqual(add_networks(other, one), (10, 2, ((0, 1, 7, 29, 3),)))
        self.assertEqual(add_networks(N, N), (10, 3, (
            (0, 1, 0, 198, 0), (1, 2, 0, 18, None), (2, 0, 0, 198, 4), (1, 0, 0, 198, 6))))

    def test_without_pipes(self):
        self.assertEqual(add_networks((10, 24, ()), (10, 24, ())), (10, 24, ()))

    def test_meters_at_the_ends_of_the_modulus(self):
        for modulus in (2, 10, 10 ** 6):
            for meter, other in ((0, 0), (0, modulus - 1), (modulus - 1, 1), (modulus - 1, modulus - 1)):
                one, two = (modulus, 2, ((0, 1, 0, 9, meter),)), (modulus, 2, ((0, 1, 0, 9, other),))
                self.assertEqual(add_networks(one, two), (modulus, 2, ((0, 1, 0, 18, (meter + other) % modulus),)))

    def test_pipes_without_a_meter(self):
        one = (10, 3, ((0, 1, 4, 4, None), (1, 2, 3, 4, None)))
        other = (10, 3, ((0, 1, 9, 9, None), (1, 2, 0, 50, None)))
        self.assertEqual(add_networks(one, other), (10, 3, ((0, 1, 13, 13, None), (1, 2, 3, 54, None))))

    def test_sum_of_two_flows_is_a_flow_of_the_sum(self):
        many = 0
        for seed in range(100):
            one = flowing_network(seed)
            draw = draws(seed + 500)
            # Other limits around the double of a flow, and its meters.
            doubled = [2 * count for count in all_flows(one)[0]]
            pipes = []
            for pipe, count in zip(one[2], doubled):
                meter = None if pipe[4] is None else count % one[0]
                low, high = (max(0, count - draw(0, 3)), count + draw(1, 4))
                low, high = (low, high) if pipe[2] < pipe[3] or meter is not None else (count, count)
                pipes.append(pipe[:2] + (low, high, meter))
            other = (one[0], one[1], tuple(pipes))
            total = add_networks(one, other)
            check_network(total)
            for flow in all_flows(one)[:20]:
                for added in all_flows(other)[:20]:
                    self.assertIs(is_flow(total, tuple(map(sum, zip(flow, added)))), True)
                    many += 1
        self.assertGreater(many, 500)

    def test_sum_is_the_sum_of_every_part(self):
        for network in drawn_networks(50):
            modulus, places, pipes = add_networks(network, network)
            self.assertEqual((modulus, places, len(pipes)), (network[0], network[1], len(network[2])))
            for pipe, total in zip(network[2], pipes):
                self.assertEqual(total[:4], pipe[:2] + (2 * pipe[2], 2 * pipe[3]))
                self.assertEqual(total[4], None if pipe[4] is None else 2 * pipe[4] % modulus)
                self.assertEqual(plainly_open(total), plainly_open(pipe))

    def test_highs_up_to_the_greatest_count(self):
        one, half = (10, 2, ((0, 1, 0, TOP - 9, 5),)), (10, 2, ((0, 1, 0, TOP // 2, 5),))
        self.assertEqual(add_networks(one, (10, 2, ((0, 1, 9, 9, 5),))), (10, 2, ((0, 1, 9, TOP, 0),)))
        self.assertEqual(add_networks(half, half), (10, 2, ((0, 1, 0, TOP, 0),)))
        self.assertMismatch(one, (10, 2, ((0, 1, 0, 10, 5),)), 0)
        full = (0, 1, TOP, TOP, None)
        self.assertEqual(add_networks((10, 2, (full,)), (10, 2, ((0, 1, 0, 0, None),))), (10, 2, (full,)))
        self.assertMismatch((10, 2, (full,)), (10, 2, (full,)), 0)

    def test_networks_of_other_sizes(self):
        self.assertMismatch(N, (11,) + N[1:], None)
        self.assertMismatch(N, (10, 4, N[2]), None)
        self.assertMismatch(N, (10, 3, N[2][:3]), None)
        self.assertMismatch(N, (10, 3, ()), None)
        self.assertMismatch(N, (10, 3, N[2] + N[2][:1]), None)
        # Sizes come before pipes.
        self.assertMismatch((10, 2, ((0, 1, 0, 9, 5),)), (10, 2, ((1, 0, 0, 9, 5), (1, 0, 0, 9, 5))), None)
        self.assertMismatch((10, 2, ((0, 1, 0, TOP, 5),)), (11, 2, ((0, 1, 0, TOP, 5),)), None)

    def assertOtherPipe(self, at, pipe):
        other = (10, 3, N[2][:at] + (pipe,) + N[2][at + 1:])
        check_network(other)
        self.assertMismatch(N, other, at)

    def test_other_sources_and_targets(self):
        for at, (source, target, low, high, meter) in enumerate(N[2]):
            third = 3 - source - target
            for ends in ((target, source), (source, third), (third, target), (third, source)):
                self.assertOtherPipe(at, ends + (low, high, meter))

    def test_other_missing_meters_and_openness(self):
        self.assertOtherPipe(0, (0, 1, 0, 99, None))
        self.assertOtherPipe(0, (0, 1, 9, 9, None))
        self.assertOtherPipe(1, (1, 2, 0, 9, 5))
        self.assertOtherPipe(1, (1, 2, 9, 9, None))
        self.assertOtherPipe(1, (1, 2, 9, 9, 9))
        self.assertMismatch((10, 2, ((0, 1, 9, 9, None),)), (10, 2, ((0, 1, 9, 9, 9),)), 0)

    def test_first_pipe_that_differs(self):
        fine, wrong, large = (0, 1, 0, 9, 5), (0, 1, 0, 9, None), (0, 1, 0, TOP, 5)
        one = (10, 2, (fine, fine, fine, large) + (fine,) * 56)
        for pipes, index in (((fine, wrong, fine, large), 1), ((fine, fine, fine, large), 3),
                             ((fine, fine, wrong, large), 2), ((large, fine, fine, large), 0),
                             ((fine, large, wrong, large), 1)):
            self.assertMismatch(one, (10, 2, pipes + (fine,) * 56), index)
        last = (10, 2, (fine,) * 59 + ((1, 0, 0, 9, 5),))
        self.assertMismatch((10, 2, (fine,) * 60), last, 59)

    def test_the_second_network_is_checked_like_the_first(self):
        # More of this is in test_conventions.
        for value in (None, crowded(2), (10, 3, [N[2]])):
            for pair in ((N, value), (value, N), (value, value)):
                with self.assertRaises(ValueError) as caught:
                    add_networks(*pair)
                self.assertNotIsInstance(caught.exception, NetworkMismatch)


if __name__ == "__main__":
    unittest.main()
