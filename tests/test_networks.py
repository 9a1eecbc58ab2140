"""Tests of wrapcount.networks: points 10 to 14, and the errors of its functions."""

import unittest

from tests.samples import HUGE, N, all_place_sets, closes_ring, drawn_network, draws, flowing_network
from tests.samples import plain_groups, plainly_open, strange_values
from wrapcount import networks
from wrapcount.errors import InvalidNetwork, InvalidPipe, InvalidPlaces
from wrapcount.networks import check_network, entering, groups, is_network, is_open, leaving, open_pipes

PIPE = (0, 1, 2, 30, 5)
NOT_INTEGERS = [True, False, "1", b"1", [1], (1,), {1: 1}, {1}, 1j, object(), (), [], ""]


def with_pipe(pipe):
    return (10, 3, (pipe,))


def changed(items, at, value):
    return items[:at] + (value,) + items[at + 1:]


class NetworkCase(unittest.TestCase):
    def assertNetwork(self, value):
        self.assertIsNone(check_network(value))
        self.assertIs(is_network(value), True)

    def assertNoNetwork(self, value, part):
        with self.assertRaises(InvalidNetwork) as caught:
            check_network(value)
        self.assertIs(type(caught.exception), InvalidNetwork)
        self.assertEqual(caught.exception.part, part)
        self.assertIs(is_network(value), False)

    def assertBadPipe(self, value, index):
        with self.assertRaises(InvalidPipe) as caught:
            check_network(value)
        self.assertIs(type(caught.exception.index), int)
        self.assertEqual(caught.exception.index, index)
        self.assertIs(is_network(value), False)


class Limits(unittest.TestCase):
    def test_constants(self):
        self.assertEqual(networks.MAX_MODULUS, 1000000)
        self.assertEqual(networks.MAX_PLACES, 24)
        self.assertEqual(networks.MAX_PIPES, 60)
        self.assertEqual(networks.MAX_COUNT, 1000000000000)
        for name in ("MAX_MODULUS", "MAX_PLACES", "MAX_PIPES", "MAX_COUNT"):
            self.assertIs(type(getattr(networks, name)), int)


class ValidNetworks(NetworkCase):
    def test_ordinary(self):
        self.assertNetwork(N)

    def test_modulus_edges(self):
        for modulus in (2, 3, 999999, 1000000):
            self.assertNetwork((modulus, 2, ((0, 1, 0, 9, 0), (0, 1, 0, 9, modulus - 1))))

    def test_places_edges(self):
        self.assertNetwork((2, 1, ()))
        self.assertNetwork((2, 24, ((0, 23, 0, 9, 1), (23, 0, 0, 9, None))))

    def test_pipes_edges(self):
        for places in (1, 2, 24):
            self.assertNetwork((10, places, ()))
        self.assertNetwork((10, 2, (PIPE,) * 60))
        self.assertNetwork((10, 2, ((0, 1, 7, 7, None),) * 60))

    def test_count_edges(self):
        for low, high in ((0, 0), (0, 10 ** 12), (10 ** 12, 10 ** 12), (5, 5), (10 ** 12 - 1, 10 ** 12)):
            for meter in (None, 0, 9):
                self.assertNetwork(with_pipe((0, 1, low, high, meter)))

    def test_pipes_between_the_same_places(self):
        self.assertNetwork((10, 2, (PIPE, PIPE, (1, 0, 0, 9, 3), (1, 0, 0, 9, None), (0, 1, 4, 4, None))))

    def test_open_pipes_without_a_ring(self):
        chain = tuple((place, place + 1, 0, 9, None) for place in range(23))
        star = tuple((23, place, 0, 9, None) for place in range(23))
        for pipes in (chain, star, chain[::-1], chain[::2], star + (PIPE,) * 37):
            self.assertNetwork((10, 24, pipes))

    def test_a_ring_with_a_closed_pipe_is_no_ring_of_open_pipes(self):
        links = ((0, 1, 0, 9, None), (1, 2, 0, 9, None))
        for last in ((2, 0, 0, 9, 3), (2, 0, 9, 9, None), (0, 2, 0, 9, 0), (2, 0, 0, 0, None)):
            self.assertNetwork((10, 3, links + (last,)))

    def test_drawn(self):
        for seed in range(200):
            self.assertNetwork(drawn_network(seed))
            self.assertNetwork(flowing_network(seed))


class WrongForm(NetworkCase):
    def test_values_of_other_kinds(self):
        for value in strange_values() + [0, 1, -1, HUGE]:
            if not (isinstance(value, tuple) and len(value) == 3):
                self.assertNoNetwork(value, "form")

    def test_wrong_lengths(self):
        for value in ((), N[:1], N[:2], N + (None,), N + N, ("", "")):
            self.assertNoNetwork(value, "form")

    def test_lists_in_place_of_tuples(self):
        self.assertNoNetwork(list(N), "form")
        self.assertNoNetwork((10, 3, list(N[2])), "pipes")
        self.assertBadPipe((10, 3, N[2][:2] + (list(N[2][2]),)), 2)

    def test_other_containers_in_place_of_tuples(self):
        for part in (dict(enumerate(N)), set(N[:2] + ("",)), "abc", range(3), iter(N)):
            self.assertNoNetwork(part, "form")
        for part in ("", b"", {}, set(), frozenset(), [], range(0), iter(()), None, 0, False):
            self.assertNoNetwork((10, 3, part), "pipes")
        for part in ("abcde", b"abcde", dict.fromkeys(range(5)), range(5), {0, 1, 2, 3, 4}):
            self.assertBadPipe(with_pipe(part), 0)


class WrongModulus(NetworkCase):
    def test_out_of_range(self):
        for modulus in (1, 0, -1, -2, -10, 1000001, 10 ** 12, HUGE, -HUGE):
            self.assertNoNetwork((modulus, 3, ()), "modulus")

    def test_other_kinds(self):
        for modulus in NOT_INTEGERS + strange_values():
            self.assertNoNetwork((modulus, 3, ()), "modulus")


class WrongPlaces(NetworkCase):
    def test_out_of_range(self):
        for places in (0, -1, 25, 10 ** 12, HUGE, -HUGE):
            self.assertNoNetwork((10, places, ()), "places")

    def test_other_kinds(self):
        for places in NOT_INTEGERS + strange_values():
            self.assertNoNetwork((10, places, ()), "places")


class WrongPipes(NetworkCase):
    def test_too_many(self):
        self.assertNoNetwork((10, 2, (PIPE,) * 61), "pipes")
        self.assertNoNetwork((10, 2, (PIPE,) * 1000), "pipes")
        self.assertNoNetwork((10, 2, (None,) * 61), "pipes")

    def test_other_kinds(self):
        for pipes in NOT_INTEGERS + strange_values() + [5, HUGE]:
            if not isinstance(pipes, tuple):
                self.assertNoNetwork((10, 3, pipes), "pipes")

    def test_pipes_of_other_kinds(self):
        for pipe in NOT_INTEGERS + strange_values() + [5, HUGE]:
            self.assertBadPipe(with_pipe(pipe), 0)
            self.assertBadPipe((10, 3, (PIPE, pipe, pipe)), 1)

    def test_wrong_lengths(self):
        for pipe in ((), PIPE[:1], PIPE[:4], PIPE + (None,), PIPE + PIPE):
            self.assertBadPipe(with_pipe(pipe), 0)

    def test_ends(self):
        for at in (0, 1):
            for place in NOT_INTEGERS + strange_values() + [-1, -2, 3, 4, HUGE, -HUGE]:
                self.assertBadPipe(with_pipe(changed(PIPE, at, place)), 0)
        for place in (0, 1, 2):
            self.assertBadPipe(with_pipe((place, place, 0, 9, 5)), 0)
            self.assertBadPipe(with_pipe((place, place, 0, 9, None)), 0)
        self.assertBadPipe((10, 1, ((0, 1, 0, 9, 5),)), 0)
        self.assertBadPipe((10, 1, ((0, 0, 0, 9, 5),)), 0)

    def test_counts(self):
        for low, high in ((-1, 9), (-10, -5), (9, 8), (1, 0), (0, 10 ** 12 + 1), (10 ** 12 + 1, 10 ** 12 + 1),
                          (10 ** 12 + 1, 10 ** 12), (0, HUGE), (HUGE, HUGE), (-HUGE, 9), (0, -1)):
            for meter in (None, 5):
                self.assertBadPipe(with_pipe((0, 1, low, high, meter)), 0)

    def test_counts_of_other_kinds(self):
        for at in (2, 3):
            for count in NOT_INTEGERS + strange_values():
                self.assertBadPipe(with_pipe(changed(PIPE, at, count)), 0)
                self.assertBadPipe(with_pipe(changed((0, 1, 0, 1, None), at, count)), 0)

    def test_meters(self):
        for modulus in (2, 10, 1000000):
            for meter in (-1, -modulus, modulus, modulus + 1, HUGE, -HUGE):
                self.assertBadPipe((modulus, 2, ((0, 1, 0, 9, meter),)), 0)
        for meter in NOT_INTEGERS + strange_values():
            if meter is not None:
                self.assertBadPipe(with_pipe(changed(PIPE, 4, meter)), 0)

    def test_true_and_false_are_not_integers(self):
        # Each of these would be a network if True were 1 and False were 0.
        for pipe in ((False, 1, 0, 9, 5), (0, True, 0, 9, 5), (0, 1, False, 9, 5), (0, 1, True, 9, 5),
                     (0, 1, 0, True, 5), (0, 1, 0, False, 5), (0, 1, 0, 9, False), (0, 1, 0, 9, True)):
            self.assertBadPipe(with_pipe(pipe), 0)
        self.assertNoNetwork((10, True, ()), "places")
        self.assertNoNetwork((True, 1, ()), "modulus")

    def test_the_first_invalid_pipe_is_named(self):
        for many in (1, 2, 59, 60):
            for index in (0, many // 2, many - 1):
                pipes = changed((PIPE,) * many, index, (0, 1, 0, 9, 10))
                self.assertBadPipe((10, 2, pipes), index)
                self.assertBadPipe((10, 2, pipes[:index] + (None,) * (many - index)), index)


class Rings(NetworkCase):
    def assertRing(self, places, ends):
        pipes = tuple((source, target, 0, 9, None) for source, target in ends)
        self.assertNoNetwork((10, places, pipes), "ring")

    def test_two_open_pipes_between_the_same_places(self):
        self.assertRing(2, ((0, 1), (1, 0)))
        self.assertRing(2, ((0, 1), (0, 1)))
        self.assertRing(3, ((1, 2), (2, 1)))
        self.assertRing(3, ((2, 1), (2, 1)))

    def test_longer_rings_in_all_directions(self):
        for number in range(8):
            ring = [(place, (place + 1) % 3) for place in range(3)]
            self.assertRing(3, [pair[::-1] if number >> at & 1 else pair for at, pair in enumerate(ring)])
        self.assertRing(24, [(place, (place + 1) % 24) for place in range(24)])

    def test_ring_beside_other_groups(self):
        self.assertRing(24, ((0, 1), (1, 2), (20, 21), (21, 22), (22, 20), (5, 6)))
        self.assertRing(5, ((0, 1), (1, 2), (2, 3), (3, 1)))

    def test_more_open_pipes_than_places(self):
        self.assertRing(2, ((0, 1),) * 60)

    def test_all_small_sets_of_open_pipes(self):
        for seed in range(400):
            draw = draws(seed)
            places = draw(2, 6)
            pipes = []
            for _ in range(draw(0, 6)):
                source = draw(0, places - 1)
                pipes.append((source, (source + draw(1, places - 1)) % places, 0, 1, None))
            if closes_ring(places, pipes):
                self.assertNoNetwork((2, places, tuple(pipes)), "ring")
            else:
                self.assertNetwork((2, places, tuple(pipes)))


class FirstError(NetworkCase):
    RING = ((0, 1, 0, 9, None), (1, 0, 0, 9, None))

    def test_each_part_wrong_together_with_the_later_ones(self):
        bad_pipe = (0, 1, 0, 9, 10)
        self.assertNoNetwork([0, 0, [None]], "form")
        self.assertNoNetwork((0, 0, [None], 0), "form")
        for modulus in (1, True, HUGE, None, [10]):
            for places in (0, True, 3):
                for pipes in ([None], (None,), self.RING, ()):
                    self.assertNoNetwork((modulus, places, pipes), "modulus")
        for places in (0, 25, True, None, [3]):
            for pipes in ([None], (None,) * 61, (None,), self.RING):
                self.assertNoNetwork((10, places, pipes), "places")
        self.assertNoNetwork((10, 2, self.RING * 30 + (bad_pipe,)), "pipes")
        self.assertNoNetwork((10, 2, [bad_pipe]), "pipes")
        self.assertBadPipe((10, 2, self.RING + (bad_pipe, None)), 2)
        self.assertBadPipe((10, 2, (bad_pipe,) + self.RING), 0)
        self.assertNoNetwork((10, 2, self.RING), "ring")


class IndexesOfPipes(unittest.TestCase):
    def test_is_open(self):
        self.assertEqual([is_open(N, index) for index in range(4)], [False, True, False, False])
        for pipe, opened in (((0, 1, 0, 9, None), True), ((0, 1, 8, 9, None), True), ((0, 1, 9, 9, None), False),
                             ((0, 1, 0, 0, None), False), ((0, 1, 0, 9, 0), False), ((0, 1, 0, 9, 9), False),
                             ((0, 1, 9, 9, 9), False), ((0, 1, 0, 10 ** 12, None), True)):
            self.assertIs(is_open(with_pipe(pipe), 0), opened)

    def test_is_open_agrees_with_the_definition(self):
        for seed in range(100):
            network = drawn_network(seed)
            for index, pipe in enumerate(network[2]):
                self.assertIs(is_open(network, index), plainly_open(pipe))

    def test_first_and_last_index(self):
        network = (10, 2, ((0, 1, 0, 9, None),) + (PIPE,) * 58 + ((0, 1, 3, 3, None),))
        self.assertIs(is_open(network, 0), True)
        self.assertIs(is_open(network, 59), False)

    def assertNoIndex(self, network, pipe):
        with self.assertRaises(InvalidPipe) as caught:
            is_open(network, pipe)
        self.assertIs(caught.exception.index, pipe)

    def test_numbers_that_are_no_index(self):
        for pipe in (-1, -4, 4, 5, 60, HUGE, -HUGE):
            self.assertNoIndex(N, pipe)
        for pipe in (0, 1, -1):
            self.assertNoIndex((10, 3, ()), pipe)
        self.assertNoIndex((10, 2, (PIPE,) * 60), 60)

    def test_values_of_other_kinds_are_no_index(self):
        for pipe in NOT_INTEGERS + strange_values():
            self.assertNoIndex(N, pipe)

    def test_open_pipes(self):
        self.assertEqual(open_pipes(N), (1,))
        self.assertEqual(open_pipes((10, 1, ())), ())
        self.assertEqual(open_pipes((10, 3, (PIPE, (0, 1, 4, 4, None)))), ())
        chain = tuple((place, place + 1, 0, 9, None) for place in range(23))
        self.assertEqual(open_pipes((10, 24, chain)), tuple(range(23)))
        self.assertEqual(open_pipes((10, 24, (PIPE,) * 37 + chain)), tuple(range(37, 60)))

    def test_open_pipes_agree_with_the_definition(self):
        for seed in range(100):
            network = drawn_network(seed)
            expected = [index for index, pipe in enumerate(network[2]) if plainly_open(pipe)]
            self.assertEqual(open_pipes(network), tuple(expected))


class Groups(unittest.TestCase):
    def test_ordinary(self):
        self.assertEqual(groups(N), ((0,), (1, 2)))

    def test_without_open_pipes_each_place_is_a_group(self):
        self.assertEqual(groups((10, 1, ())), ((0,),))
        self.assertEqual(groups((10, 24, (PIPE, (0, 1, 7, 7, None)))), tuple((place,) for place in range(24)))

    def test_one_group(self):
        for chain in ([(place, place + 1, 0, 9, None) for place in range(23)],
                      [(place + 1, place, 0, 9, None) for place in range(23)],
                      [(23, place, 0, 9, None) for place in range(23)],
                      [(place, 11 if place != 11 else 0, 0, 9, None) for place in range(1, 24)]):
            self.assertEqual(groups((10, 24, tuple(chain))), (tuple(range(24)),))

    def test_groups_and_their_places_are_ascending(self):
        network = (10, 6, ((5, 3, 0, 9, None), (3, 0, 0, 9, None), (4, 1, 0, 9, None)))
        self.assertEqual(groups(network), ((0, 3, 5), (1, 4), (2,)))

    def test_directions_do_not_matter(self):
        self.assertEqual(groups((10, 3, ((0, 1, 0, 9, None), (2, 1, 0, 9, None)))), ((0, 1, 2),))
        self.assertEqual(groups((10, 3, ((1, 0, 0, 9, None), (1, 2, 0, 9, None)))), ((0, 1, 2),))

    def test_agree_with_the_definition(self):
        for seed in range(300):
            network = drawn_network(seed)
            self.assertEqual(groups(network), plain_groups(network))


class SetsOfPlaces(unittest.TestCase):
    FUNCTIONS = (entering, leaving)

    def test_ordinary(self):
        self.assertEqual(entering(N, (1, 2)), (0,))
        self.assertEqual(leaving(N, (1, 2)), (2, 3))
        self.assertEqual(entering(N, (0,)), (2, 3))
        self.assertEqual(leaving(N, (0,)), (0,))
        self.assertEqual(entering(N, (2,)), (1,))
        self.assertEqual(leaving(N, (1,)), (1, 3))

    def test_empty_set_and_all_places(self):
        for network in (N, (10, 1, ()), (10, 24, (PIPE,) * 60)):
            for function in self.FUNCTIONS:
                self.assertEqual(function(network, ()), ())
                self.assertEqual(function(network, tuple(range(network[1]))), ())

    def test_many_pipes(self):
        network = (10, 24, (PIPE,) * 60)
        self.assertEqual(entering(network, (1,)), tuple(range(60)))
        self.assertEqual(leaving(network, (0, 23)), tuple(range(60)))
        self.assertEqual(entering(network, (0, 1)), ())
        self.assertEqual(leaving(network, (2, 3)), ())

    def test_agree_with_the_definition(self):
        for seed in range(100):
            network = drawn_network(seed)
            for places in all_place_sets(network[1]):
                pairs = [(index, pipe[0] in places, pipe[1] in places) for index, pipe in enumerate(network[2])]
                self.assertEqual(entering(network, places), tuple(at for at, out, into in pairs if into and not out))
                self.assertEqual(leaving(network, places), tuple(at for at, out, into in pairs if out and not into))

    def assertNoSet(self, network, places):
        for function in self.FUNCTIONS:
            with self.assertRaises(InvalidPlaces) as caught:
                function(network, places)
            self.assertIs(caught.exception.value, places)

    def test_numbers_that_are_no_places(self):
        for place in (-1, -3, 3, 4, HUGE, -HUGE):
            for places in ((place,), (0, place), (place, 2), (0, 1, place), (0, place, 2)):
                self.assertNoSet(N, places)
        self.assertNoSet((10, 1, ()), (1,))
        self.assertNoSet((10, 24, ()), (24,))
        self.assertNoSet((10, 24, ()), tuple(range(25)))

    def test_order_and_duplicates(self):
        for places in ((1, 0), (2, 1), (0, 2, 1), (0, 0), (1, 1), (0, 1, 1), (2, 2), (0,) * 100000):
            self.assertNoSet(N, places)

    def test_items_of_other_kinds(self):
        for item in NOT_INTEGERS + strange_values():
            for places in ((item,), (0, item), (item, 2), (0, item, 2)):
                self.assertNoSet(N, places)

    def test_values_of_other_kinds(self):
        for places in [[], [1, 2], {1: 2}, {1, 2}, range(3), iter((1, 2)), 0, 1, "", "01", b"", None, True, False, HUGE]:
            self.assertNoSet(N, places)
        for places in strange_values():
            self.assertNoSet(N, places)


if __name__ == "__main__":
    unittest.main()
