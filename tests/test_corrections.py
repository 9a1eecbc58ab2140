"""Tests of wrapcount.corrections: points 50 to 52, and the errors of its function."""

import unittest

from tests.samples import N, N_EXCESS, N_OFF, all_flows, crossing, drawn_network, flowing_network, is_plain_flow
from tests.samples import large_network, overfull_network, plain_groups, plain_sum, plainly_open, small_networks
from tests.samples import with_meter
from wrapcount.corrections import MAX_CORRECTED, corrections
from wrapcount.decisions import decide
from wrapcount.errors import LimitExceeded
from wrapcount.networks import groups
from wrapcount.residues import group_sums

TOP = 10 ** 12
NO_COUNT = (10, 2, ((0, 1, 16, 18, 5), (1, 0, 0, 99, 5)))


def searched(network):
    """Returns all corrections of a small network, by [50]."""
    if all_flows(network):
        return ()
    return tuple(
        (index, meter)
        for index, pipe in enumerate(network[2]) for meter in range(network[0])
        if pipe[4] not in (None, meter) and all_flows(with_meter(network, index, meter))
    )


def decided(network):
    """Returns all corrections of a network without a flow, by [50], from what decide says."""
    return tuple(
        (index, meter)
        for index, pipe in enumerate(network[2]) for meter in range(network[0])
        if pipe[4] not in (None, meter) and decide(with_meter(network, index, meter))[0] == "flow"
    )


def with_modulus(network, flow, modulus):
    """Returns the network with the meters of the flow for another modulus."""
    pipes = [pipe[:4] + (None if pipe[4] is None else count % modulus,) for pipe, count in zip(network[2], flow)]
    return (modulus, network[1], tuple(pipes))


def misread(network, seed):
    """Returns the network with another meter at one pipe, and the pair that corrects it."""
    metered = [index for index, pipe in enumerate(network[2]) if pipe[4] is not None]
    index = metered[seed % len(metered)]
    meter = network[2][index][4]
    other = (meter + 1 + seed % (network[0] - 1)) % network[0]
    return with_meter(network, index, other), (index, meter)


class Corrections(unittest.TestCase):
    def test_limit(self):
        self.assertEqual(MAX_CORRECTED, 100)

    def test_ordinary(self):
        self.assertEqual(corrections(N_OFF), ((0, 6), (2, 1), (3, 3)))
        self.assertEqual(corrections(NO_COUNT), ())
        self.assertEqual(corrections(N_EXCESS), ())

    def test_networks_with_a_flow(self):
        for network in (N, (10, 1, ()), (10, 24, ()), (2, 1, ()), (100, 24, ()), crossing(2, 59)):
            self.assertEqual(corrections(network), ())
        for seed in range(20):
            network, flow = large_network(seed)
            self.assertEqual(corrections(with_modulus(network, flow, 97)), ())

    def test_networks_with_exactly_one_flow_after_the_correction(self):
        self.assertEqual(corrections((10, 2, ((0, 1, 7, 7, 6), (1, 0, 0, 9, None)))), ((0, 7),))
        self.assertEqual(corrections((10, 2, ((0, 1, 7, 7, None), (1, 0, 0, 9, 6)))), ((1, 7),))

    def test_wrong_sums(self):
        # Between two groups with wrong sums, in both directions, and one pipe that cannot have the count.
        pipes = ((0, 1, 0, 99, 3), (1, 0, 0, 99, 4), (0, 1, 0, 3, 0), (1, 2, 0, 99, 1), (2, 1, 0, 99, 1))
        self.assertEqual(corrections((10, 3, pipes)), ((0, 4), (1, 3), (2, 1)))
        pipes = pipes[:2] + ((0, 1, 0, 0, 0),) + pipes[3:]
        self.assertEqual(corrections((10, 3, pipes)), ((0, 4), (1, 3)))

    def test_three_and_four_wrong_sums(self):
        three = (10, 3, ((0, 1, 0, 99, 3), (1, 2, 0, 99, 4), (2, 0, 0, 99, 5)))
        self.assertEqual([total for _, total in group_sums(three)], [2, 9, 9])
        self.assertEqual(corrections(three), ())
        four = (10, 4, ((0, 1, 0, 99, 3), (1, 0, 0, 99, 4), (2, 3, 0, 99, 3), (3, 2, 0, 99, 4)))
        self.assertEqual(corrections(four), ())

    def test_the_right_sums_and_no_bounds(self):
        # Sums of 0 in one group: the meter of the pipe 0 decides on the count of the pipe 1.
        network = (10, 2, ((0, 1, 0, 9, 9), (1, 0, 0, 3, None)))
        self.assertEqual(corrections(network), tuple((0, meter) for meter in range(4)))
        # Another pipe without bounds is left.
        network = (10, 2, network[2] + ((1, 0, 16, 18, 5), (0, 1, 5, 5, 5)))
        self.assertEqual(corrections(network), ())

    def test_too_much_for_a_set(self):
        network = (10, 2, ((0, 1, 20, 29, 9), (1, 0, 0, 25, None)))
        self.assertEqual(decide(network)[0], "places")
        self.assertEqual(corrections(network), tuple((0, meter) for meter in range(6)))

    def test_pipes_without_a_meter_have_no_correction(self):
        for network, _ in small_networks(80):
            for index, meter in corrections(network):
                self.assertIs(type(index), int)
                self.assertIs(type(meter), int)
                self.assertNotIn(network[2][index][4], (None, meter))

    def test_agrees_with_a_search(self):
        seen = {"sum": 0, "pipe": 0, "places": 0}
        for seed in range(250):
            for network in (drawn_network(seed), flowing_network(seed)):
                networks = [network]
                if any(pipe[4] is not None for pipe in network[2]):
                    networks.append(misread(network, seed)[0])
                for one in networks:
                    expected = searched(one)
                    self.assertEqual(corrections(one), expected)
                    if expected:
                        seen[decide(one)[0]] += 1
        self.assertGreater(min(seen.values()), 5)

    def test_agrees_with_a_search_if_nearly_all_pipes_are_open(self):
        seen = {"sum": 0, "pipe": 0, "places": 0}
        for seed in range(120):
            modulus = 5 + seed % 4
            low = seed % 7
            pipes = ((0, 1, 0, 4 + seed % 3, None), (1, 2, low, low + 3, None), (2, 0, seed % 5, 9, seed % modulus),
                     (0, 2, 0, 4, seed * 3 % modulus))
            network = (modulus, 3, pipes)
            expected = searched(network)
            self.assertEqual(corrections(network), expected)
            if expected:
                seen[decide(network)[0]] += 1
        self.assertGreater(seen["pipe"], 5)

    def test_ascending(self):
        for seed in range(30):
            network, flow = large_network(seed)
            found = corrections(misread(with_modulus(network, flow, 97), seed)[0])
            self.assertIs(type(found), tuple)
            self.assertEqual(list(found), sorted(set(found)))

    def test_large_networks_contain_the_meter_that_was_right(self):
        many = 0
        for seed in range(60):
            network, flow = large_network(seed)
            modulus = (2, 3, 10, 97, 100)[seed % 5]
            network, right = misread(with_modulus(network, flow, modulus), seed)
            if decide(network)[0] != "flow":
                found = corrections(network)
                self.assertIn(right, found)
                self.assertTrue(is_plain_flow(with_meter(network, right[0], right[1]), flow))
                for index, meter in found:
                    self.assertEqual(decide(with_meter(network, index, meter))[0], "flow")
                many += 1
        self.assertGreater(many, 30)

    def test_large_networks_agree_with_all_decisions(self):
        kinds = {"sum": 0, "pipe": 0, "places": 0}
        for seed in range(12):
            network, flow = large_network(seed)
            network = misread(with_modulus(network, flow, (5, 10)[seed % 2]), seed)[0]
            if decide(network)[0] != "flow":
                kinds[decide(network)[0]] += 1
                self.assertEqual(corrections(network), decided(network))
        for seed in range(24):
            network, places = overfull_network(seed)
            if network[0] <= 10:
                kinds["places"] += 1
                self.assertEqual(corrections(network), decided(network))
        self.assertGreater(kinds["sum"], 3)
        self.assertGreater(kinds["places"], 3)

    def test_60_pipes_and_a_modulus_of_100(self):
        # The open pipe has room for 51 residues. Each of the others can give it one of these.
        pipes = ((0, 1, 100, 150, None),) + ((1, 0, 0, 10 ** 4, 5),) * 30 + ((0, 1, 0, 10 ** 4, 6),) * 29
        network = (100, 2, pipes)
        self.assertEqual(decide(network), ("pipe", 0))
        found = corrections(network)
        self.assertEqual(len(found), 59 * 51)
        # The pipe 0 has 76 too much by its residue: (30 * 5 - 29 * 6) is -24.
        self.assertEqual([meter for pipe, meter in found if pipe == 1], list(range(29, 80)))
        self.assertEqual(found[-1], (59, 82))
        self.assertEqual(set(pipe for pipe, _ in found), set(range(1, 60)))

    def test_points_51_and_52(self):
        for seed in range(150):
            network = drawn_network(seed)
            found = corrections(network)
            wrong = [group for group in plain_groups(network) if plain_sum(network, group)]
            for index, meter in found:
                source, target = network[2][index][:2]
                if wrong:
                    self.assertEqual(len(wrong), 2)
                    self.assertEqual(sorted([group for group in wrong for end in (source, target) if end in group]), wrong)
                    changed = with_meter(network, index, meter)
                    self.assertFalse([group for group in groups(changed) if plain_sum(changed, group)])
                else:
                    self.assertTrue(any(source in group and target in group for group in groups(network)))

    def test_the_greatest_counts(self):
        for modulus in (2, 100):
            network = (modulus, 2, ((0, 1, TOP, TOP, 1), (1, 0, 0, TOP, 0)))
            self.assertEqual(corrections(network), ((0, 0),))
            network = (modulus, 2, ((0, 1, TOP - 1, TOP - 1, None), (1, 0, 0, TOP, 0)))
            self.assertEqual(corrections(network), ((1, (TOP - 1) % modulus),))

    def test_networks_whose_pipes_have_no_meters(self):
        network = (10, 2, ((0, 1, 5, 5, None), (1, 0, 4, 4, None)))
        self.assertEqual(corrections(network), ())
        self.assertTrue(plainly_open((0, 1, 5, 9, None)))
        self.assertEqual(corrections((10, 2, ((0, 1, 5, 9, None),))), ())


class Limits(unittest.TestCase):
    def test_modulus(self):
        for modulus in (101, 102, 10 ** 6):
            for pipes in ((), N[2], N_OFF[2], N_EXCESS[2][:2], NO_COUNT[2]):
                with self.assertRaises(LimitExceeded) as caught:
                    corrections((modulus, 3, pipes))
                self.assertEqual(caught.exception.limit, 100)
        for modulus in (2, 99, 100):
            self.assertEqual(corrections((modulus, 3, ())), ())
        self.assertEqual(corrections((100, 3, N_OFF[2])), ((0, 6), (2, 1), (3, 3)))


if __name__ == "__main__":
    unittest.main()
