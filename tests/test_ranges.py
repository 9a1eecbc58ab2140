"""Tests of wrapcount.ranges: points 25 to 27, and the errors of its functions."""

import unittest
from itertools import product

from tests.samples import HUGE, N, N_EXCESS, N_OFF, all_flows, all_place_sets, crowded, drawn_network
from tests.samples import flowing_network, is_plain_flow, large_network, nested, overfull_network, plain_bounds
from tests.samples import plain_excess, strange_values
from wrapcount.decisions import check_decision
from wrapcount.errors import InvalidAnswer, InvalidPipe, NoFlow
from wrapcount.ranges import check_greatest, check_least, greatest_count, least_count, ranges
from wrapcount.residues import bounds, residues

TOP = 10 ** 12
NO_COUNT = (10, 2, ((0, 1, 16, 18, 5), (1, 0, 0, 99, 5)))
# The examples of the document: the pipe 0 cannot have more than 35, and not less than 25.
DOWN = (10, 2, ((0, 1, 0, 99, 5), (1, 0, 0, 40, 5)))
UP = (10, 2, ((0, 1, 0, 99, 5), (1, 0, 20, 40, 5)))


def flowing_networks(many):
    drawn = [make(seed) for seed in range(many) for make in (drawn_network, flowing_network)]
    return [network for network in drawn if all_flows(network)]


def enters(network, pipe, places):
    source, target = network[2][pipe][:2]
    return target in places and source not in places


def leaves(network, pipe, places):
    source, target = network[2][pipe][:2]
    return source in places and target not in places


def greatest_by(network, limits, pipe, places):
    """Returns the difference of [26]."""
    return (sum(pair[1] for at, pair in enumerate(limits) if leaves(network, at, places))
            - sum(pair[0] for at, pair in enumerate(limits) if enters(network, at, places) and at != pipe))


def least_by(network, limits, pipe, places):
    """Returns the difference of [27]."""
    return (sum(pair[0] for at, pair in enumerate(limits) if enters(network, at, places))
            - sum(pair[1] for at, pair in enumerate(limits) if leaves(network, at, places) and at != pipe))


class Extremes(unittest.TestCase):
    def assertGreatest(self, network, pipe, count):
        answer = greatest_count(network, pipe)
        self.assertEqual(check_greatest(network, pipe, answer), count)
        self.assertExtreme(network, pipe, answer, count)
        limits = bounds(network)
        if answer[2] is None:
            self.assertEqual(count, limits[pipe][1])
        else:
            self.assertTrue(enters(network, pipe, answer[2]))
            self.assertEqual(greatest_by(network, limits, pipe, answer[2]), count)

    def assertLeast(self, network, pipe, count):
        answer = least_count(network, pipe)
        self.assertEqual(check_least(network, pipe, answer), count)
        self.assertExtreme(network, pipe, answer, count)
        limits = bounds(network)
        if answer[2] is None:
            self.assertEqual(count, limits[pipe][0])
        else:
            self.assertTrue(leaves(network, pipe, answer[2]))
            self.assertEqual(least_by(network, limits, pipe, answer[2]), count)

    def assertExtreme(self, network, pipe, answer, count):
        self.assertIs(type(answer), tuple)
        found, flow, places = answer
        self.assertEqual((found, flow[pipe]), (count, count))
        self.assertTrue(is_plain_flow(network, flow))
        if places is not None:
            self.assertEqual(places, tuple(sorted(set(places))))
            self.assertTrue(set(places) < set(range(network[1])))

    def assertRanges(self, network, expected):
        self.assertEqual(ranges(network), expected)
        for pipe, (least, most) in enumerate(expected):
            self.assertLeast(network, pipe, least)
            self.assertGreatest(network, pipe, most)


class Ranges(Extremes):
    def test_ordinary(self):
        self.assertRanges(N, ((5, 95), (2, 2), (2, 2), (3, 93)))
        self.assertRanges(DOWN, ((5, 35), (5, 35)))
        self.assertRanges(UP, ((25, 35), (25, 35)))

    def test_sets_that_enforce_the_counts(self):
        self.assertEqual(greatest_count(DOWN, 0), (35, (35, 35), (1,)))
        self.assertEqual(greatest_count(DOWN, 1), (35, (35, 35), None))
        self.assertEqual(least_count(UP, 0), (25, (25, 25), (0,)))
        self.assertEqual(least_count(UP, 1), (25, (25, 25), None))

    def test_without_pipes(self):
        for places in (1, 24):
            self.assertEqual(ranges((10, places, ())), ())

    def test_networks_with_exactly_one_flow(self):
        self.assertRanges((10, 2, ((0, 1, 7, 7, None), (1, 0, 0, 9, None))), ((7, 7), (7, 7)))
        self.assertRanges((10, 2, ((0, 1, 0, 99, 7), (1, 0, 0, 9, None))), ((7, 7), (7, 7)))
        self.assertRanges((10, 3, ((0, 1, 0, 9, 3), (1, 2, 0, 9, None), (0, 2, 0, TOP, None), (2, 0, 4, 9, 7))),
                          ((3, 3), (3, 3), (4, 4), (7, 7)))

    def test_counts_of_0_and_of_the_greatest_size(self):
        for modulus in (2, 10 ** 6):
            for meter, most in ((0, TOP), (modulus - 1, TOP - 1)):
                network = (modulus, 2, ((0, 1, 0, TOP, meter), (1, 0, 0, TOP, None)))
                self.assertRanges(network, ((meter, most), (meter, most)))
        self.assertRanges((10, 2, ((0, 1, 0, 0, None), (1, 0, 0, TOP, None))), ((0, 0), (0, 0)))
        self.assertRanges((10, 2, ((0, 1, TOP, TOP, None), (1, 0, 0, TOP, None))), ((TOP, TOP), (TOP, TOP)))

    def test_a_pipe_that_leads_nowhere_back(self):
        self.assertRanges((10, 3, ((0, 1, 0, 99, 0), (1, 2, 0, 99, 0))), ((0, 0), (0, 0)))
        self.assertRanges((10, 2, ((0, 1, 0, 99, 0), (0, 1, 0, 99, None))), ((0, 0), (0, 0)))

    def test_pipes_between_the_same_two_places(self):
        pipes = ((0, 1, 0, 35, 5), (0, 1, 0, 99, 2), (1, 0, 20, 80, None))
        self.assertRanges((10, 2, pipes), ((5, 35), (2, 72), (27, 77)))
        pipes = ((0, 1, 0, TOP, 0),) * 30 + ((1, 0, 0, TOP, 0),) * 30
        self.assertRanges((10, 2, pipes), ((0, TOP),) * 60)

    def test_open_pipes_in_every_direction(self):
        self.assertRanges((10, 3, ((1, 0, 0, 99, None), (1, 2, 0, 99, None), (0, 1, 0, 55, 4), (2, 1, 10, 99, 3))),
                          ((4, 54), (13, 93), (4, 54), (13, 93)))

    def test_a_chain_through_all_places(self):
        chain = tuple((place, place + 1, 0, 99 - place, 5) for place in range(23))
        self.assertRanges((10, 24, chain + ((23, 0, 25, 99, None),)), ((25, 75),) * 24)

    def test_agree_with_a_search_through_all_flows(self):
        many = 0
        for network in flowing_networks(150):
            flows = all_flows(network)
            expected = tuple((min(column), max(column)) for column in zip(*flows))
            self.assertRanges(network, expected)
            many += len(expected)
        self.assertGreater(many, 500)

    def test_possible_counts_are_all_with_the_residue_in_the_range(self):
        for network in flowing_networks(150):
            for (least, most), residue, column in zip(ranges(network), residues(network), zip(*all_flows(network))):
                fitting = [count for count in range(least, most + 1) if count % network[0] == residue]
                self.assertEqual(sorted(set(column)), fitting)

    def test_every_set_allows_at_least_the_greatest_and_at_most_the_least_count(self):
        for network in flowing_networks(60):
            limits = plain_bounds(network)
            for pipe, (least, most) in enumerate(ranges(network)):
                sets = all_place_sets(network[1])
                above = [greatest_by(network, limits, pipe, places) for places in sets if enters(network, pipe, places)]
                below = [least_by(network, limits, pipe, places) for places in sets if leaves(network, pipe, places)]
                self.assertEqual(most, min(above + [limits[pipe][1]]))
                self.assertEqual(least, max(below + [limits[pipe][0]]))

    def test_large_networks(self):
        for seed in range(12):
            network, flow = large_network(seed)
            found = ranges(network)
            self.assertRanges(network, found)
            self.assertTrue(all(least <= count <= most for count, (least, most) in zip(flow, found)))

    def test_ranges_and_counts_agree_in_large_networks(self):
        for seed in range(12, 60):
            network, _ = large_network(seed)
            pipe = seed % 60
            self.assertEqual(ranges(network)[pipe], (least_count(network, pipe)[0], greatest_count(network, pipe)[0]))


class Errors(Extremes):
    FUNCTIONS = (greatest_count, least_count)

    def test_no_flow(self):
        for network, word in ((N_OFF, "sum"), (NO_COUNT, "pipe"), (N_EXCESS, "places")):
            calls = [lambda: ranges(network)]
            calls += [lambda function=function, pipe=pipe: function(network, pipe)
                      for function in self.FUNCTIONS for pipe in range(len(network[2]))]
            for call in calls:
                with self.assertRaises(NoFlow) as caught:
                    call()
                self.assertEqual(check_decision(network, caught.exception.reason), word)

    def test_no_flow_in_large_networks(self):
        for seed in range(30):
            network, _ = overfull_network(seed)
            for call in (lambda: ranges(network), lambda: greatest_count(network, 59), lambda: least_count(network, 0)):
                with self.assertRaises(NoFlow) as caught:
                    call()
                self.assertEqual(check_decision(network, caught.exception.reason), "places")
                self.assertGreater(plain_excess(network, bounds(network), caught.exception.reason[1]), 0)

    def test_invalid_pipe(self):
        for network in (N, N_OFF, NO_COUNT, N_EXCESS, (10, 1, ())):
            wrong = strange_values() + [-1, len(network[2]), HUGE, -HUGE, (0,)]
            for value in wrong:
                for function in self.FUNCTIONS:
                    with self.assertRaises(InvalidPipe) as caught:
                        function(network, value)
                    self.assertIs(caught.exception.index, value)
                for function in (check_greatest, check_least):
                    for answer in (None, value, (5, (5, 2, 2, 3), None)):
                        with self.assertRaises(InvalidPipe) as caught:
                            function(network, value, answer)
                        self.assertIs(caught.exception.index, value)


class Checks(Extremes):
    CHECKS = (check_greatest, check_least)

    def assertWrong(self, check, network, pipe, answer, part):
        with self.assertRaises(InvalidAnswer) as caught:
            check(network, pipe, answer)
        self.assertEqual(caught.exception.part, part)

    def assertBothWrong(self, network, pipe, answer, part):
        for check in self.CHECKS:
            self.assertWrong(check, network, pipe, answer, part)

    def test_right_answers(self):
        self.assertEqual(check_greatest(DOWN, 0, (35, (35, 35), (1,))), 35)
        self.assertEqual(check_least(UP, 0, (25, (25, 25), (0,))), 25)
        self.assertEqual(check_greatest(N, 0, (95, (95, 2, 2, 93), None)), 95)
        self.assertEqual(check_least(N, 3, (3, (5, 2, 2, 3), None)), 3)

    def test_a_set_may_stand_beside_a_bound(self):
        network = (10, 2, ((0, 1, 0, 40, 5), (1, 0, 0, 40, 5)))
        for places in (None, (1,)):
            self.assertEqual(check_greatest(network, 0, (35, (35, 35), places)), 35)
        for places in (None, (0,)):
            self.assertEqual(check_least(network, 0, (5, (5, 5), places)), 5)
        self.assertWrong(check_greatest, network, 0, (35, (35, 35), (0,)), "places")
        self.assertWrong(check_least, network, 0, (5, (5, 5), (1,)), "places")

    def test_form(self):
        for network in (N, DOWN, N_OFF, NO_COUNT, N_EXCESS):
            for answer in (None, (), (5,), (5, (5, 2, 2, 3)), (5, (5, 2, 2, 3), None, None), [5, (5, 2, 2, 3), None],
                           "abc", 5, {0: 5, 1: (5, 2, 2, 3), 2: None}):
                self.assertBothWrong(network, 0, answer, "form")
            for value in strange_values():
                if not isinstance(value, tuple) or len(value) != 3:
                    self.assertBothWrong(network, 0, value, "form")

    def test_no_flow(self):
        for counts in ((), (5, 2, 2), [5, 2, 2, 3], None, (5, 2, 2, 13), (105, 2, 2, 103), (6, 2, 2, 4),
                       (5, True, 2, 3), (5, 2, HUGE, 3), (-5, 2, 2, -7)):
            for count in (5, None, 95, HUGE):
                for places in (None, (1,), [1]):
                    self.assertBothWrong(N, 0, (count, counts, places), "flow")
        for value in strange_values() + [HUGE]:
            self.assertBothWrong(N, 0, (5, value, None), "flow")
            self.assertBothWrong(N, 0, (value, value, value), "flow")
            self.assertBothWrong(N, 0, (5, (5, value, 2, 3), None), "flow")

    def test_networks_without_a_flow_have_no_answer(self):
        for network in (N_OFF, NO_COUNT, N_EXCESS):
            for counts in ((5, 2, 2, 3), (5, 5), (15, 15), (5, 5, 5, 5), (5, 5, 15, 15)):
                for places in (None, (0,), (1,), (0, 1, 3)):
                    self.assertBothWrong(network, 0, (counts[0], counts, places), "flow")

    def test_wrong_counts(self):
        for count in (5, 94, 96, 105, 0, -95, HUGE, -HUGE, 2, 93):
            for places in (None, (1,), [1]):
                self.assertBothWrong(N, 0, (count, (95, 2, 2, 93), places), "count")
        for value in strange_values():
            self.assertBothWrong(N, 0, (value, (5, 2, 2, 3), None), "count")
        one = (2, 2, ((0, 1, 0, 1, 1), (1, 0, 0, 1, 1)))
        zero = (2, 2, ((0, 1, 0, 1, 0), (1, 0, 0, 1, 0)))
        for network, flow, count in ((one, (1, 1), True), (zero, (0, 0), False)):
            self.assertBothWrong(network, 0, (count, flow, None), "count")

    def test_counts_that_are_no_bound(self):
        for count in (5, 15, 85):
            self.assertWrong(check_greatest, N, 0, (count, (count, 2, 2, count - 2), None), "places")
        for count in (15, 85, 95):
            self.assertWrong(check_least, N, 0, (count, (count, 2, 2, count - 2), None), "places")
        self.assertWrong(check_greatest, DOWN, 0, (35, (35, 35), None), "places")
        self.assertWrong(check_least, UP, 0, (25, (25, 25), None), "places")

    def test_wrong_sets(self):
        for places in ((), (0,), (0, 1), (2,), (1, 1), (-1,), (True,), [1], 1, (1, None), HUGE, ((1,),), crowded(2)):
            self.assertWrong(check_greatest, DOWN, 0, (35, (35, 35), places), "places")
        for places in ((), (1,), (0, 1), (2,), (0, 0), (-1,), (False,), [0], 0, (0, None), HUGE, ((0,),), crowded(2)):
            self.assertWrong(check_least, UP, 0, (25, (25, 25), places), "places")
        # The set is right, but the count is not what it enforces.
        for count in (5, 15, 25):
            self.assertWrong(check_greatest, DOWN, 0, (count, (count, count), (1,)), "places")
        for count in (35,):
            self.assertWrong(check_least, UP, 0, (count, (count, count), (0,)), "places")

    def test_places_of_other_kinds(self):
        for value in strange_values() + [HUGE, -HUGE]:
            if value is not None:
                self.assertBothWrong(N, 0, (5, (5, 2, 2, 3), value), "places")
                self.assertBothWrong(N, 0, (95, (95, 2, 2, 93), value), "places")
            self.assertBothWrong(N, 0, (5, (5, 2, 2, 3), (0, value)), "places")

    def test_values_with_more_parts_than_can_be_visited(self):
        for deep in (crowded(2), crowded(5), nested(97, lambda value: [value])):
            self.assertBothWrong(N, 0, (deep, deep, deep), "flow")
            self.assertBothWrong(N, 0, (deep, (5, 2, 2, 3), deep), "count")
            self.assertBothWrong(N, 0, (5, (5, 2, 2, 3), deep), "places")

    def test_accept_just_what_the_search_finds(self):
        accepted = 0
        for network in flowing_networks(45):
            flows, limits = all_flows(network), plain_bounds(network)
            sets = all_place_sets(network[1])
            for pipe, flow in product(range(len(network[2])), flows[:3] + flows[-3:]):
                column = [counts[pipe] for counts in flows]
                for places in [None] + sets:
                    answer = (flow[pipe], flow, places)
                    if flow[pipe] == max(column) and (
                            flow[pipe] == limits[pipe][1] if places is None else enters(network, pipe, places)
                            and greatest_by(network, limits, pipe, places) == flow[pipe]):
                        self.assertEqual(check_greatest(network, pipe, answer), flow[pipe])
                        accepted += 1
                    else:
                        self.assertWrong(check_greatest, network, pipe, answer, "places")
                    if flow[pipe] == min(column) and (
                            flow[pipe] == limits[pipe][0] if places is None else leaves(network, pipe, places)
                            and least_by(network, limits, pipe, places) == flow[pipe]):
                        self.assertEqual(check_least(network, pipe, answer), flow[pipe])
                        accepted += 1
                    else:
                        self.assertWrong(check_least, network, pipe, answer, "places")
        self.assertGreater(accepted, 300)

    def test_changed_answers_of_large_networks(self):
        for seed in range(40):
            network, _ = large_network(seed)
            pipe = seed % 60
            for find, check in ((greatest_count, check_greatest), (least_count, check_least)):
                count, flow, places = find(network, pipe)
                self.assertWrong(check, network, pipe, (count, flow), "form")
                self.assertWrong(check, network, pipe, (count, flow[::-1] + (0,), places), "flow")
                self.assertWrong(check, network, pipe, (count + network[0], flow, places), "count")
                self.assertWrong(check, network, pipe, (count, flow, tuple(range(24))), "places")
                if places is not None and count not in bounds(network)[pipe]:
                    self.assertWrong(check, network, pipe, (count, flow, None), "places")


if __name__ == "__main__":
    unittest.main()
