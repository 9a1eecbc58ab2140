"""Tests of wrapcount.decisions: points 20 to 24, and the errors of its functions."""

import unittest
from itertools import product

from tests.samples import HUGE, N, N_EXCESS, N_OFF, Touchy, all_flows, all_place_sets, crowded, drawn_network
from tests.samples import flowing_network, is_plain_flow, large_network, nested, overfull_network, plain_excess
from tests.samples import plain_reasons, strange_values
from wrapcount.decisions import check_decision, decide
from wrapcount.errors import GroupSum, InvalidAnswer
from wrapcount.residues import bounds, excess, group_sums, residues

TOP = 10 ** 12
NO_COUNT = (10, 2, ((0, 1, 16, 18, 5), (1, 0, 0, 99, 5)))
# Each network with the word of its decision.
NETWORKS = [(N, "flow"), (N_OFF, "sum"), (NO_COUNT, "pipe"), (N_EXCESS, "places")]


def drawn_networks(many):
    return [make(seed) for seed in range(many) for make in (drawn_network, flowing_network)]


class Deciding(unittest.TestCase):
    def assertDecision(self, network, word):
        answer = decide(network)
        self.assertIs(type(answer), tuple)
        self.assertEqual(len(answer), 2)
        self.assertEqual(answer[0], word)
        self.assertEqual(check_decision(network, answer), word)
        return answer[1]

    def assertFlow(self, network):
        self.assertTrue(is_plain_flow(network, self.assertDecision(network, "flow")))


class Decide(Deciding):
    def test_ordinary(self):
        self.assertFlow(N)
        self.assertEqual(decide((10, 2, ((0, 1, 12, 18, 5), (1, 0, 0, 99, 5)))), ("flow", (15, 15)))
        self.assertIn(self.assertDecision(N_OFF, "sum"), ((0,), (1, 2)))
        self.assertEqual(decide(NO_COUNT), ("pipe", 0))
        self.assertEqual(decide(N_EXCESS), ("places", (0, 1, 3)))

    def test_without_pipes(self):
        for places in (1, 2, 24):
            self.assertEqual(decide((10, places, ())), ("flow", ()))

    def test_networks_with_exactly_one_flow(self):
        for network, flow in (
            ((10, 2, ((0, 1, 5, 5, None), (1, 0, 5, 5, None))), (5, 5)),
            ((2, 2, ((0, 1, TOP, TOP, 0), (1, 0, 0, TOP, None))), (TOP, TOP)),
            ((10 ** 6, 2, ((0, 1, 0, 999999, 999999), (1, 0, 0, TOP, None))), (999999, 999999)),
            ((10, 3, ((0, 1, 0, 9, 3), (1, 2, 0, 9, None), (0, 2, 0, TOP, None), (2, 0, 4, 9, 7))), (3, 3, 4, 7)),
        ):
            self.assertEqual(decide(network), ("flow", flow))

    def test_first_sums_then_bounds_then_places(self):
        wrong_sum = (0, 1, 0, 9, 5)
        wrong_bounds = ((2, 3, 6, 8, 5), (3, 2, 0, 9, 5))
        wrong_places = ((4, 5, 20, 29, 5), (5, 4, 0, 19, 5))
        self.assertDecision((10, 6, wrong_places + wrong_bounds + (wrong_sum,)), "sum")
        self.assertDecision((10, 6, wrong_places + (wrong_sum,)), "sum")
        self.assertDecision((10, 6, wrong_bounds + (wrong_sum,)), "sum")
        self.assertEqual(self.assertDecision((10, 6, wrong_places + wrong_bounds), "pipe"), 2)
        self.assertEqual(self.assertDecision((10, 6, wrong_places), "places"), (5,))

    def test_counts_of_0_and_of_the_greatest_size(self):
        for modulus in (2, 10, 10 ** 6):
            self.assertFlow((modulus, 2, ((0, 1, 0, 0, None), (1, 0, 0, 0, None))))
            self.assertFlow((modulus, 2, ((0, 1, 0, 0, 0), (1, 0, 0, TOP, None))))
            self.assertFlow((modulus, 2, ((0, 1, TOP, TOP, None), (1, 0, 0, TOP, 0))))
            self.assertFlow((modulus, 2, ((0, 1, 0, TOP, modulus - 1), (1, 0, 0, TOP, modulus - 1))))
            self.assertDecision((modulus, 2, ((0, 1, TOP, TOP, None), (1, 0, 0, TOP - modulus, 0))), "places")
            self.assertDecision((modulus, 2, ((0, 1, modulus, modulus, None), (1, 0, 0, 0, None))), "places")
            self.assertDecision((modulus, 2, ((0, 1, TOP, TOP, modulus - 1), (1, 0, 0, TOP, modulus - 1))), "pipe")

    def test_counts_have_to_be_raised_along_long_paths(self):
        # Place 0 gets 20 more than its other pipes bring, and only a chain through all places takes it back.
        chain = tuple((place, place + 1, 0, 99, 5) for place in range(23))
        for high, word in ((25, "flow"), (24, "places"), (15, "places")):
            network = (10, 24, ((23, 0, 25, 99, 5),) + chain[:-1] + ((22, 23, 0, high, 5),))
            self.assertDecision(network, word)
        self.assertEqual(decide(network), ("places", tuple(range(23))))

    def test_counts_have_to_be_lowered_again(self):
        # The shortest way for the first 10 of 20 leads through the pipe 1, which then has to give them up.
        network = (10, 8, (
            (0, 1, 0, 10, 0), (1, 4, 0, 10, 0), (4, 7, 0, 10, 0), (0, 2, 0, 10, 0), (2, 3, 0, 10, 0),
            (3, 4, 0, 10, 0), (1, 5, 0, 10, 0), (5, 6, 0, 10, 0), (6, 7, 0, 10, 0), (7, 0, 20, 20, 0),
        ))
        self.assertEqual(decide(network), ("flow", (10, 0, 10, 10, 10, 10, 10, 10, 10, 20)))

    def test_open_pipes_in_both_directions(self):
        for pipes in (((0, 1, 0, 9, 3), (1, 0, 0, 9, None)), ((1, 0, 0, 9, 3), (0, 1, 0, 9, None)),
                      ((0, 1, 0, 9, 3), (0, 1, 0, 99, None), (1, 0, 10, 10, None)),
                      ((0, 1, 0, 9, None), (2, 1, 0, 9, None), (1, 3, 2, 2, None), (3, 0, 2, 2, None))):
            self.assertFlow((10, 4, pipes))

    def test_the_flow_has_the_residues_and_is_within_the_bounds(self):
        for network in drawn_networks(150) + [large_network(seed)[0] for seed in range(30)]:
            word, flow = decide(network)
            if word == "flow":
                self.assertEqual(tuple(count % network[0] for count in flow), residues(network))
                self.assertTrue(all(least <= count <= most for count, (least, most) in zip(flow, bounds(network))))

    def test_agrees_with_a_search_through_all_counts_and_all_sets(self):
        seen = {"flow": 0, "sum": 0, "pipe": 0, "places": 0}
        for network in drawn_networks(400):
            flows, reasons = all_flows(network), plain_reasons(network)
            # By [24] there is either a flow or a reason.
            self.assertEqual(len(flows) > 0, len(reasons) == 0)
            answer = decide(network)
            self.assertIn(answer, reasons + [("flow", flow) for flow in flows])
            self.assertEqual(check_decision(network, answer), answer[0])
            seen[answer[0]] += 1
        self.assertGreater(min(seen.values()), 30)

    def test_large_networks_with_a_flow(self):
        for seed in range(120):
            network, _ = large_network(seed)
            self.assertFlow(network)

    def test_large_networks_with_a_set_that_cannot_let_out_what_enters(self):
        for seed in range(120):
            network, _ = overfull_network(seed)
            places = self.assertDecision(network, "places")
            limits = bounds(network)
            for (source, target, low, high, _), (least, most), residue in zip(network[2], limits, residues(network)):
                self.assertEqual((least % network[0], most % network[0]), (residue, residue))
                self.assertTrue(low <= least < low + network[0] and high - network[0] < most <= high)
            self.assertGreater(plain_excess(network, limits, places), 0)
            self.assertEqual(list(places), sorted(set(places)))
            self.assertLess(places[-1], 24)

    def test_large_networks_with_wrong_sums_and_without_bounds(self):
        for seed in range(60):
            (modulus, _, pipes), counts = large_network(seed)
            at = [index for index, pipe in enumerate(pipes) if pipe[4] is not None][seed % 20]
            source, target, low, high, meter = pipes[at]
            network = (modulus, 24, pipes[:at] + ((source, target, low, high, (meter + 1) % modulus),) + pipes[at + 1:])
            wrong = dict(group_sums(network))
            if any(wrong.values()):
                self.assertNotEqual(wrong[self.assertDecision(network, "sum")], 0)
            low = counts[at] - modulus + 1
            if low > 0:
                pipe = (source, target, low, counts[at] - 1, meter)
                if low < counts[at]:
                    network = (modulus, 24, pipes[:at] + (pipe,) + pipes[at + 1:])
                    self.assertEqual(self.assertDecision(network, "pipe"), at)

    def test_crossing_ways_of_many_pipes(self):
        for low, word in ((0, "flow"), (TOP - 10, "flow"), (TOP - 9, "places")):
            pipes = ((0, 1, low, TOP, 0),) * 30 + ((1, 0, 0, TOP - 10, 0),) * 30
            self.assertDecision((10, 2, pipes), word)


class CheckDecision(Deciding):
    def assertWrong(self, network, answer, part):
        with self.assertRaises(InvalidAnswer) as caught:
            check_decision(network, answer)
        self.assertEqual(caught.exception.part, part)

    def test_every_flow_is_accepted(self):
        for counts in all_flows(N):
            self.assertEqual(check_decision(N, ("flow", counts)), "flow")

    def test_every_group_every_pipe_and_every_set_is_accepted(self):
        for group in ((0,), (1, 2)):
            self.assertEqual(check_decision(N_OFF, ("sum", group)), "sum")
        both = (10, 3, ((0, 1, 16, 18, 5), (1, 2, 0, 99, 5), (2, 0, 6, 14, 5)))
        for index in (0, 2):
            self.assertEqual(check_decision(both, ("pipe", index)), "pipe")
        apart = (10, 4, ((0, 1, 20, 29, 5), (1, 0, 0, 19, 5), (2, 3, 20, 29, 5), (3, 2, 0, 19, 5)))
        for places in ((1,), (3,), (1, 3), (0, 1, 3), (1, 2, 3)):
            self.assertEqual(check_decision(apart, ("places", places)), "places")
        for places in ((), (0,), (0, 1), (0, 2), (1, 2), (0, 1, 2, 3)):
            self.assertWrong(apart, ("places", places), "places")

    def test_accepts_just_what_the_search_finds(self):
        for network in drawn_networks(120):
            flows, reasons = all_flows(network), plain_reasons(network)
            near = flows[:3] + list(product(*[(pipe[2], pipe[3]) for pipe in network[2]]))[:9]
            answers = [("flow", counts) for counts in near]
            answers += [("sum", places) for places in all_place_sets(network[1])]
            answers += [("pipe", index) for index in range(-1, len(network[2]) + 1)]
            answers += [("places", places) for places in all_place_sets(network[1])]
            for answer in answers:
                if answer in reasons or answer[0] == "flow" and answer[1] in flows:
                    self.assertEqual(check_decision(network, answer), answer[0])
                else:
                    self.assertWrong(network, answer, answer[0])

    def test_form(self):
        for network, _ in NETWORKS:
            for answer in (None, (), ("flow",), ("flow", (5, 2, 2, 3), None), ["flow", (5, 2, 2, 3)], "flow",
                           ("flows", (5, 2, 2, 3)), ("Flow", (5, 2, 2, 3)), ("", ()), ("ring", ()), ("flowsum", ()),
                           (None, None), (0, 1), ((), ()), (b"flow", (5, 2, 2, 3)), (True, True), "ab", {"flow": 1},
                           ((5, 2, 2, 3), "flow"), (("flow",), (5, 2, 2, 3)), ("lo", ()), ("flow sum", ())):
                self.assertWrong(network, answer, "form")

    def test_values_of_other_kinds(self):
        for network, _ in NETWORKS:
            for value in strange_values() + [HUGE, -HUGE, -1]:
                self.assertWrong(network, value, "form")
                self.assertWrong(network, (value, value), "form")
                self.assertWrong(network, (value, (5, 2, 2, 3)), "form")
                for word in ("flow", "sum", "pipe", "places"):
                    self.assertWrong(network, (word, value), word)

    def test_answers_with_another_word(self):
        for network, word in NETWORKS:
            answer = decide(network)
            for other in ("flow", "sum", "pipe", "places"):
                if other != word:
                    self.assertWrong(network, (other, answer[1]), other)

    def test_lists_in_place_of_tuples(self):
        for network, word in NETWORKS:
            answer = decide(network)
            self.assertWrong(network, list(answer), "form")
            if word != "pipe":
                self.assertWrong(network, (word, list(answer[1])), word)

    def test_wrong_flows(self):
        for counts in ((), (5, 2, 2), (5, 2, 2, 3, 3), (5, 2, 2, 13), (105, 2, 2, 103), (-5, 2, 2, -7), (5, 2, 3, 3),
                       (5, 3, 2, 3), (HUGE, 2, 2, HUGE), (5, True, 2, 3), (5, 2, None, 3), (5, crowded(4), 2, 3)):
            self.assertWrong(N, ("flow", counts), "flow")

    def test_wrong_groups(self):
        for group in ((), (1,), (2,), (0, 1), (0, 2), (0, 1, 2), (2, 1), (1, 1, 2), (1, 2, 3), (3,), (False,),
                      (1, True), (-1,), (HUGE,), 0, None, ((0,),), crowded(2)):
            self.assertWrong(N_OFF, ("sum", group), "sum")
        for group in ((0,), (1, 2)):
            self.assertWrong(N, ("sum", group), "sum")
        # Of several groups, those whose sum is 0 are no reason.
        three = (10, 3, ((0, 1, 0, 9, 5),))
        self.assertWrong(three, ("sum", (2,)), "sum")
        self.assertEqual(check_decision(three, ("sum", (1,))), "sum")

    def test_wrong_pipes(self):
        for index in (1, 2, -1, -2, HUGE, False, True, None, (0,), [0], "0", crowded(2)):
            self.assertWrong(NO_COUNT, ("pipe", index), "pipe")
        self.assertWrong((10, 1, ()), ("pipe", 0), "pipe")
        # A pipe without bounds is a reason only if all sums are 0.
        self.assertWrong((10, 2, ((0, 1, 16, 18, 5),)), ("pipe", 0), "pipe")
        self.assertWrong((10, 3, ((0, 1, 16, 18, 5), (1, 0, 0, 99, 5), (1, 2, 0, 9, 1))), ("pipe", 0), "pipe")

    def test_wrong_sets_of_places(self):
        for places in ((), (0,), (2,), (0, 1, 2, 3), (0, 3, 1), (3, 1, 0), (0, 0, 1, 3), (False, 1, 3), (0, 1, 4),
                       (0, 1, HUGE), None, 3, [0, 1, 3], crowded(3), (crowded(3),)):
            self.assertWrong(N_EXCESS, ("places", places), "places")
        # Too much that enters is a reason only if all sums are 0 and all pipes have bounds.
        wrong_sum = N_EXCESS[2] + ((0, 1, 0, 9, 1),)
        self.assertWrong((10, 4, wrong_sum), ("places", (0, 1, 3)), "places")
        wrong_bounds = N_EXCESS[2] + ((0, 1, 6, 8, 5), (1, 0, 0, 9, 5))
        self.assertWrong((10, 4, wrong_bounds), ("places", (0, 1, 3)), "places")
        self.assertWrong((10, 4, wrong_sum), ("places", [0, 1, 3]), "places")

    def test_excess_of_0_is_no_reason(self):
        network = (10, 2, ((0, 1, 15, 25, 5), (1, 0, 5, 15, 5)))
        self.assertEqual(excess(network, (1,)), 0)
        self.assertWrong(network, ("places", (1,)), "places")
        for network, _ in NETWORKS:
            self.assertWrong(network, ("places", ()), "places")
            self.assertWrong(network, ("places", tuple(range(network[1]))), "places")

    def test_values_are_not_compared_or_visited(self):
        class Word(Touchy):
            pass

        for network, _ in NETWORKS:
            for deep in (Word(), crowded(2), crowded(90), nested(97, lambda value: [value])):
                self.assertWrong(network, (deep, deep), "form")
                self.assertWrong(network, ("flow", (deep,) * 4), "flow")
                for word in ("sum", "places"):
                    self.assertWrong(network, (word, (deep,)), word)
                    self.assertWrong(network, (word, (0, deep)), word)
                self.assertWrong(network, ("pipe", deep), "pipe")

    def test_large_networks(self):
        for seed in range(60):
            network, flow = large_network(seed)
            self.assertEqual(check_decision(network, ("flow", flow)), "flow")
            at = seed % 60
            self.assertWrong(network, ("flow", flow[:at] + (flow[at] + 1,) + flow[at + 1:]), "flow")
            self.assertWrong(network, ("pipe", at), "pipe")
            overfull, places = overfull_network(seed)
            self.assertEqual(check_decision(overfull, ("places", places)), "places")
            self.assertWrong(network, ("places", places), "places")
            others = tuple(place for place in range(24) if place not in places)
            self.assertWrong(overfull, ("places", others), "places")

    def test_the_sums_have_no_error_of_their_own(self):
        for word, value in (("flow", (5, 2, 2, 3)), ("pipe", 0), ("places", (0,))):
            try:
                check_decision(N_OFF, (word, value))
            except GroupSum:
                self.fail("check_decision raises InvalidAnswer only")
            except InvalidAnswer as error:
                self.assertEqual(error.part, word)


if __name__ == "__main__":
    unittest.main()
