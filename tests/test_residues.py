"""Tests of wrapcount.residues: points 20 to 23, and the errors of its functions."""

import hashlib
import unittest

from tests.samples import HUGE, N, N_EXCESS, N_OFF, all_flows, all_place_sets, draws, drawn_network, flowing_network
from tests.samples import large_network, overfull_network, plain_bounds, plain_excess, plain_groups, plain_residues
from tests.samples import plain_sum, shuffled, strange_values
from wrapcount.errors import GroupSum, InvalidPlaces, NoCount, WrapcountError
from wrapcount.networks import open_pipes
from wrapcount.residues import bounds, excess, group_sums, residues

TOP = 10 ** 12


def drawn_networks():
    return [make(seed) for seed in range(300) for make in (drawn_network, flowing_network)]


def large_networks():
    return [make(seed)[0] for seed in range(40) for make in (large_network, overfull_network)]


def balanced(network):
    return all(total == 0 for _, total in group_sums(network))


class GroupSums(unittest.TestCase):
    def test_ordinary(self):
        self.assertEqual(group_sums(N), (((0,), 0), ((1, 2), 0)))
        self.assertEqual(group_sums(N_OFF), (((0,), 1), ((1, 2), 9)))

    def test_without_pipes(self):
        self.assertEqual(group_sums((10, 1, ())), (((0,), 0),))
        self.assertEqual(group_sums((2, 24, ())), tuple(((place,), 0) for place in range(24)))

    def test_smallest_and_greatest_modulus(self):
        self.assertEqual(group_sums((2, 2, ((0, 1, 0, 9, 1),))), (((0,), 1), ((1,), 1)))
        self.assertEqual(group_sums((10 ** 6, 2, ((0, 1, 0, 9, 1),))), (((0,), 999999), ((1,), 1)))
        self.assertEqual(group_sums((10 ** 6, 2, ((0, 1, 0, 9, 999999),))), (((0,), 1), ((1,), 999999)))

    def test_sums_of_many_pipes(self):
        pipes = ((0, 1, 0, 9, 999999),) * 60
        self.assertEqual(group_sums((10 ** 6, 2, pipes)), (((0,), 60), ((1,), 999940)))
        self.assertEqual(group_sums((10, 2, ((0, 1, 0, 9, 5),) * 60)), (((0,), 0), ((1,), 0)))

    def test_a_closed_pipe_without_a_meter_counts_by_its_low(self):
        for count in (0, 7, 10, 123, TOP - 1, TOP):
            network = (10, 2, ((0, 1, count, count, None),))
            self.assertEqual(group_sums(network), (((0,), -count % 10), ((1,), count % 10)))

    def test_pipes_within_a_group_do_not_count(self):
        link = (0, 1, 0, 9, None)
        for inside in ((0, 1, 0, 9, 3), (1, 0, 0, 9, 3), (0, 1, 4, 4, None)):
            self.assertEqual(group_sums((10, 2, (link, inside))), (((0, 1), 0),))

    def test_agree_with_the_definition(self):
        for network in drawn_networks():
            expected = tuple((group, plain_sum(network, group)) for group in plain_groups(network))
            self.assertEqual(group_sums(network), expected)

    def test_a_sum_other_than_0_means_that_there_is_no_flow(self):
        networks = [network for network in drawn_networks() if not balanced(network)]
        self.assertGreater(len(networks), 50)
        for network in networks:
            self.assertEqual(all_flows(network), [])


class Residues(unittest.TestCase):
    def test_ordinary(self):
        self.assertEqual(residues(N), (5, 2, 2, 3))
        self.assertEqual(residues(N_EXCESS), (5, 5, 5, 5))

    def test_without_pipes(self):
        self.assertEqual(residues((10, 1, ())), ())
        self.assertEqual(residues((10, 24, ())), ())

    def test_closed_pipes(self):
        network = (10, 2, ((0, 1, 0, 9, 0), (0, 1, 0, 9, 9), (0, 1, 11, 11, None), (0, 1, TOP, TOP, None)))
        self.assertEqual(residues(network), (0, 9, 1, 0))

    def test_smallest_and_greatest_modulus(self):
        self.assertEqual(residues((2, 2, ((0, 1, 0, 9, 1), (1, 0, 0, 9, None)))), (1, 1))
        self.assertEqual(residues((2, 2, ((0, 1, 0, 9, 0), (1, 0, 0, 9, None)))), (0, 0))
        self.assertEqual(residues((10 ** 6, 2, ((0, 1, 0, 9, 999999), (1, 0, 0, 9, None)))), (999999, 999999))
        self.assertEqual(residues((10 ** 6, 2, ((0, 1, 0, 9, 999999), (0, 1, 0, 9, None)))), (999999, 1))
        self.assertEqual(residues((10 ** 6, 2, ((0, 1, TOP, TOP, None), (0, 1, 0, 9, None)))), (0, 0))

    def test_open_pipes_in_both_directions(self):
        self.assertEqual(residues((10, 2, ((0, 1, 0, 9, 3), (1, 0, 0, 9, None)))), (3, 3))
        self.assertEqual(residues((10, 2, ((0, 1, 0, 9, 3), (0, 1, 0, 9, None)))), (3, 7))
        self.assertEqual(residues((10, 2, ((0, 1, 0, 9, None),))), (0,))

    def test_open_pipes_from_which_several_others_go_on(self):
        # 4 enter at place 0, and 3, 2 and 9 leave from the ends of the star around place 1.
        network = (10, 5, (
            (4, 0, 0, 99, 4), (0, 1, 0, 99, None), (1, 2, 0, 99, None), (3, 1, 0, 99, None),
            (2, 4, 0, 99, 3), (3, 4, 0, 99, 2), (1, 4, 0, 99, 9),
        ))
        self.assertEqual(group_sums(network), (((0, 1, 2, 3), 0), ((4,), 0)))
        self.assertEqual(residues(network), (4, 4, 3, 8, 3, 2, 9))

    def test_a_long_chain(self):
        chain = tuple((place, place + 1, 0, 9, None) for place in range(23))
        self.assertEqual(residues((10, 24, chain + ((23, 0, 0, 9, 7),))), (7,) * 24)
        back = tuple((place + 1, place, 0, 9, None) for place in range(23))
        self.assertEqual(residues((10, 24, back + ((23, 0, 0, 9, 7),))), (3,) * 23 + (7,))

    def test_agree_with_the_definition(self):
        for network in drawn_networks():
            if balanced(network):
                self.assertEqual(residues(network), plain_residues(network))

    def test_every_flow_has_the_residues(self):
        many = 0
        for network in drawn_networks():
            for flow in all_flows(network):
                self.assertEqual(tuple(count % network[0] for count in flow), residues(network))
                many += 1
        self.assertGreater(many, 500)


class Bounds(unittest.TestCase):
    def test_ordinary(self):
        self.assertEqual(bounds(N), ((5, 95), (2, 2), (2, 92), (3, 93)))
        self.assertEqual(bounds((10, 1, ())), ())

    def test_a_pipe_without_bounds(self):
        self.assertEqual(bounds((10, 2, ((0, 1, 16, 18, 5), (1, 0, 0, 99, 5)))), (None, (5, 95)))
        self.assertEqual(bounds((10, 2, ((0, 1, 0, 99, 5), (1, 0, 16, 24, None)))), ((5, 95), None))
        self.assertEqual(bounds((10, 2, ((0, 1, 6, 6, 5), (1, 0, 4, 4, 5)))), (None, None))

    def test_limits_that_just_reach_the_residue(self):
        for low, high, expected in ((5, 5, (5, 5)), (15, 24, (15, 15)), (16, 25, (25, 25)), (15, 25, (15, 25)),
                                    (6, 14, None), (16, 24, None), (0, 4, None), (0, 5, (5, 5)), (6, 15, (15, 15))):
            network = (10, 2, ((0, 1, low, high, 5), (1, 0, 0, 99, 5)))
            self.assertEqual(bounds(network)[0], expected)

    def test_counts_of_0_and_of_the_greatest_size(self):
        for modulus, meter, low, high, expected in (
            (2, 0, 0, TOP, (0, TOP)), (2, 1, 0, TOP, (1, TOP - 1)),
            (10 ** 6, 0, 0, TOP, (0, TOP)), (10 ** 6, 999999, 0, TOP, (999999, TOP - 1)),
            (10 ** 6, 0, TOP, TOP, (TOP, TOP)), (10 ** 6, 0, TOP - 1, TOP, (TOP, TOP)),
            (10 ** 6, 999999, TOP, TOP, None), (10 ** 6, 1, TOP - 999999, TOP, (TOP - 999999, TOP - 999999)),
            (2, 0, 0, 0, (0, 0)), (2, 1, 0, 0, None), (10, 9, 0, 0, None),
        ):
            network = (modulus, 2, ((0, 1, low, high, meter), (1, 0, 0, TOP, meter)))
            self.assertEqual(bounds(network)[0], expected)

    def test_low_equal_to_high_without_a_meter(self):
        for count in (0, 1, 9, 10, 77, TOP):
            network = (10, 2, ((0, 1, count, count, None), (1, 0, 0, TOP, None)))
            self.assertEqual(bounds(network)[0], (count, count))

    def test_agree_with_the_definition(self):
        for network in drawn_networks():
            if balanced(network):
                self.assertEqual(bounds(network), plain_bounds(network))

    def test_counts_of_all_flows_are_within_the_bounds(self):
        for network in drawn_networks():
            if balanced(network):
                found = bounds(network)
                flows = all_flows(network)
                if None in found:
                    self.assertEqual(flows, [])
                for flow in flows:
                    self.assertTrue(all(least <= count <= most for count, (least, most) in zip(flow, found)))


class Excess(unittest.TestCase):
    def test_ordinary(self):
        self.assertEqual(excess(N_EXCESS, (0, 1, 3)), 10)
        self.assertEqual(excess(N_EXCESS, (2,)), -10)
        self.assertEqual(excess(N_EXCESS, (1, 2)), 5 - 15)
        self.assertEqual(excess(N, (1, 2)), 5 - 92 - 93)

    def test_empty_set_and_all_places(self):
        for network in (N, N_EXCESS, (10, 1, ()), (10, 24, ((0, 1, 0, 9, 5),) * 60)):
            self.assertEqual(excess(network, ()), 0)
            self.assertEqual(excess(network, tuple(range(network[1]))), 0)

    def test_all_pipes_enter_or_leave(self):
        pipes = ((0, 1, TOP - 9, TOP, 5),) * 60
        self.assertEqual(excess((10, 2, pipes), (1,)), 60 * (TOP - 5))
        self.assertEqual(excess((10, 2, pipes), (0,)), -60 * (TOP - 5))
        pipes = ((0, 1, 0, TOP, 5),) * 60
        self.assertEqual(excess((10, 2, pipes), (1,)), 300)
        self.assertEqual(excess((10, 2, pipes), (0,)), -60 * (TOP - 5))

    def test_agree_with_the_definition(self):
        for network in drawn_networks():
            if balanced(network) and None not in bounds(network):
                found = plain_bounds(network)
                for places in all_place_sets(network[1]):
                    expected = 0
                    for pipe, (least, most) in zip(network[2], found):
                        expected += least * (pipe[1] in places) * (pipe[0] not in places)
                        expected -= most * (pipe[0] in places) * (pipe[1] not in places)
                    self.assertEqual(excess(network, places), expected)

    def test_a_positive_excess_means_that_there_is_no_flow_and_conversely(self):
        seen = {True: 0, False: 0}
        for network in drawn_networks():
            if balanced(network) and None not in bounds(network):
                positive = any(excess(network, places) > 0 for places in all_place_sets(network[1]))
                self.assertEqual(all_flows(network) == [], positive)
                seen[positive] += 1
        self.assertGreater(min(seen.values()), 20)


class Errors(unittest.TestCase):
    NO_COUNT = (10, 2, ((0, 1, 0, 99, 5), (1, 0, 16, 18, None)))

    def assertGroupSum(self, network, group):
        calls = (lambda: residues(network), lambda: bounds(network), lambda: excess(network, ()),
                 lambda: excess(network, (0,)))
        for call in calls:
            with self.assertRaises(GroupSum) as caught:
                call()
            self.assertEqual(caught.exception.group, group)
            self.assertIs(type(caught.exception.group), tuple)

    def test_the_first_group_is_named(self):
        self.assertGroupSum(N_OFF, (0,))
        self.assertGroupSum((10, 3, ((1, 2, 0, 9, 5),)), (1,))
        self.assertGroupSum((10, 4, ((0, 1, 0, 9, None), (3, 2, 0, 9, 5))), (2,))
        self.assertGroupSum((10, 4, ((3, 2, 0, 9, 5), (3, 0, 0, 9, None), (1, 2, 0, 9, None))), (0, 3))
        self.assertGroupSum((10, 24, ((23, 22, 0, 9, 1),)), (22,))
        self.assertGroupSum((2, 2, ((0, 1, 0, 9, 1),)), (0,))

    def test_group_sum_comes_before_missing_bounds(self):
        self.assertGroupSum((10, 2, ((0, 1, 16, 18, 5),)), (0,))
        self.assertGroupSum((10, 2, ((0, 1, 16, 18, 4), (1, 0, 16, 18, 5))), (0,))

    def test_group_sum_is_the_first_such_group_of_the_definition(self):
        for network in drawn_networks():
            wrong = [group for group in plain_groups(network) if plain_sum(network, group)]
            if wrong:
                self.assertGroupSum(network, wrong[0])

    def assertNoCount(self, network, pipe):
        for places in ((), (0,), tuple(range(network[1]))):
            with self.assertRaises(NoCount) as caught:
                excess(network, places)
            self.assertEqual(caught.exception.pipe, pipe)
            self.assertIs(type(caught.exception.pipe), int)

    def test_the_first_pipe_without_bounds_is_named(self):
        self.assertNoCount(self.NO_COUNT, 1)
        self.assertNoCount((10, 2, ((0, 1, 16, 18, 5), (1, 0, 0, 99, 5))), 0)
        self.assertNoCount((10, 2, ((0, 1, 16, 18, 5), (1, 0, 16, 18, 5))), 0)
        fine = ((0, 1, 0, 9, 5),)
        self.assertNoCount((10, 2, fine * 59 + ((0, 1, 0, 4, 5),)), 59)
        self.assertNoCount((10, 2, fine * 30 + ((0, 1, 0, 4, 5),) * 30), 30)
        # The pipe need not touch the set of places.
        self.assertNoCount((10, 4, ((2, 3, 6, 8, 5), (3, 2, 0, 9, 5))), 0)

    def test_missing_bounds_are_no_error_of_residues_and_bounds(self):
        self.assertEqual(residues(self.NO_COUNT), (5, 5))
        self.assertEqual(bounds(self.NO_COUNT), ((5, 95), None))

    def assertNoSet(self, network, places):
        with self.assertRaises(InvalidPlaces) as caught:
            excess(network, places)
        self.assertIs(caught.exception.value, places)

    def test_values_that_are_no_set_of_places(self):
        for places in strange_values() + [[0], [], 0, (1, 0), (0, 0), (3,), (-1,), (HUGE,), (True,), (0, True)]:
            self.assertNoSet(N, places)

    def test_invalid_places_come_before_group_sums_and_missing_bounds(self):
        for places in ([0], (7,), (1, 0), (False,), None):
            self.assertNoSet(N_OFF, places)
            self.assertNoSet(self.NO_COUNT, places)


class LargeNetworks(unittest.TestCase):
    # The ends of pipes with the meter 0, beside 23 open pipes.
    ENDS = (
        (0, 1), (1, 8), (2, 15), (3, 22), (4, 5), (5, 12), (6, 19), (7, 2), (8, 9), (9, 16), (10, 23), (11, 6),
        (12, 13), (13, 20), (14, 3), (15, 10), (16, 17), (17, 0), (18, 7), (19, 14), (20, 21), (21, 4), (22, 11),
        (23, 18), (0, 2), (1, 9), (2, 16), (3, 23), (4, 6), (5, 13), (6, 20), (7, 3), (8, 10), (9, 17), (10, 0),
        (11, 7), (12, 14),
    )
    STAR = tuple((0, place) for place in range(1, 24))
    ROW = tuple((place, place + 1) for place in range(23))
    INWARDS = tuple((place, place // 2) for place in range(1, 24))

    def made(self, links, meters=(0,) * 37):
        pipes = [ends + (0, TOP, None) for ends in links]
        pipes += [ends + (0, TOP, meter) for ends, meter in zip(self.ENDS, meters)]
        return (10 ** 6, 24, tuple(pipes))

    def test_a_star_of_open_pipes(self):
        network = self.made(self.STAR)
        self.assertEqual(excess(network, (0, 3, 7)), -26 * TOP)
        self.assertEqual(excess(network, ()), 0)
        self.assertEqual(excess(network, tuple(range(24))), 0)
        self.assertEqual(group_sums(network), ((tuple(range(24)), 0),))
        self.assertEqual(residues(network), (0,) * 60)
        self.assertEqual(bounds(network), ((0, TOP),) * 60)

    def test_open_pipes_of_every_shape(self):
        for seed in range(12):
            draw = draws(seed)
            meters = [draw(0, 999999) for _ in self.ENDS]
            for links in (self.STAR, self.ROW, self.INWARDS, tuple(shuffled(self.INWARDS, draw))):
                network = self.made(links, meters)
                self.assertEqual(open_pipes(network), tuple(range(23)))
                self.assertEqual(group_sums(network), ((tuple(range(24)), 0),))
                self.assertEqual(residues(network), plain_residues(network))
                limits = [(residue, TOP - (10 ** 6 - residue if residue else 0)) for residue in residues(network)]
                self.assertEqual(bounds(network), tuple(limits))
                for _ in range(5):
                    places = tuple(sorted(shuffled(range(24), draw)[:draw(0, 24)]))
                    self.assertEqual(excess(network, places), plain_excess(network, limits, places))

    def test_groups_of_every_shape(self):
        for seed in range(12):
            draw = draws(seed)
            links = shuffled(self.INWARDS, draw)[:draw(5, 22)]
            network = self.made(links, [draw(0, 999999) for _ in self.ENDS])
            expected = tuple((group, plain_sum(network, group)) for group in plain_groups(network))
            self.assertEqual(group_sums(network), expected)
            self.assertEqual(len(expected), 24 - len(links))

    def test_agree_with_the_definition(self):
        for network in large_networks():
            self.assertEqual(group_sums(network), tuple((group, 0) for group in plain_groups(network)))
            self.assertEqual(residues(network), plain_residues(network))
            for (least, most), residue, (_, _, low, high, _) in zip(bounds(network), residues(network), network[2]):
                self.assertEqual((least % network[0], most % network[0]), (residue, residue))
                self.assertTrue(low <= least < low + network[0] and high - network[0] < most <= high)
            for start in range(6):
                places = tuple(range(start, 24, start + 1))
                self.assertEqual(excess(network, places), plain_excess(network, bounds(network), places))


class Recorded(unittest.TestCase):
    """The answers and errors that the first version of these functions gave, by their digest."""

    def networks(self):
        return drawn_networks() + large_networks()

    def assertRecorded(self, digest, calls):
        told = hashlib.sha256()
        for function, arguments in calls:
            try:
                line = repr(function(*arguments))
            except WrapcountError as error:
                line = f"{error.__class__.__name__} {vars(error)}"
            told.update(f"{line}\n".encode())
        self.assertEqual(told.hexdigest(), digest)

    def test_group_sums(self):
        self.assertRecorded("5cf2b10d0e6a641548dfa12288c1ba94cc4ed0a7c3e9be74c9946a1e34be563c",
                            [(group_sums, (network,)) for network in self.networks()])

    def test_residues(self):
        self.assertRecorded("3e9856caa109bb4c2ee3f5ab91d94eaf894e4a39dc0db281a624435acba446e9",
                            [(residues, (network,)) for network in self.networks()])

    def test_bounds(self):
        self.assertRecorded("0895f784d8df13a206da388b057e0d9b9d0d3dd2ff2b995c94f0d45a41d99f70",
                            [(bounds, (network,)) for network in self.networks()])

    def test_excess(self):
        wide = [tuple(range(start, 24, step)) for start in range(5) for step in range(1, 6)]
        calls = []
        for network in self.networks():
            sets = all_place_sets(network[1]) if network[1] < 6 else wide
            calls += [(excess, (network, places)) for places in sets]
        self.assertRecorded("c53be6f4c7a7e48fde6cee48fd110799969276a7c0f61206f40a8262315156fe", calls)


if __name__ == "__main__":
    unittest.main()
