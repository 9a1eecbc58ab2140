"""Tests of wrapcount.cheapest: points 40 and 41, and the errors of its functions."""

import unittest

from tests.samples import HUGE, N, N_EXCESS, N_OFF, crowded, draws, is_plain_flow, large_network, nested
from tests.samples import overfull_network, plain_bounds, small_networks, strange_values
from wrapcount import cheapest
from wrapcount.cheapest import check_cheapest, cheapest_flow
from wrapcount.decisions import check_decision
from wrapcount.errors import InvalidAnswer, InvalidFlow, InvalidWeights, NoFlow
from wrapcount.flows import check_flow
from wrapcount.residues import bounds

TOP = 10 ** 12
MOST = 10 ** 6
NO_COUNT = (10, 2, ((0, 1, 16, 18, 5), (1, 0, 0, 99, 5)))
ONE_FLOW = (10, 2, ((0, 1, 7, 7, None), (1, 0, 0, 9, None)))
BEST = (8, (5, 2, 2, 3), (0, 0, 0))
# The chain of all places, and a pipe back.
CHAIN = tuple((place, place + 1, 0, 99, 5) for place in range(23)) + ((23, 0, 0, TOP, 5),)
WRONG_WEIGHTS = [MOST + 1, -MOST - 1, HUGE, -HUGE]


def plain_total(weights, counts):
    """Returns the total, by [40]."""
    return sum(weights[at] * counts[at] for at in range(len(counts)))


def plain_reduced(network, weights, potentials):
    """Returns the reduced weights, by [41]."""
    return [weights[at] + potentials[pipe[0]] - potentials[pipe[1]] for at, pipe in enumerate(network[2])]


def plainly_supported(network, weights, limits, counts, potentials):
    """Tells whether the potentials support the flow, by [41]."""
    for reduced, count, (least, most) in zip(plain_reduced(network, weights, potentials), counts, limits):
        if (reduced > 0 and count != least) or (reduced < 0 and count != most):
            return False
    return True


def drawn_weights(many, seed):
    """Returns several tuples of weights."""
    draw = draws(seed + 5000)
    return [
        tuple(draw(-3, 3) for _ in range(many)), tuple(draw(-MOST, MOST) for _ in range(many)),
        tuple((-MOST, 0, MOST)[draw(0, 2)] for _ in range(many)), tuple(draw(0, 1) - 1 for _ in range(many)),
    ]


class Cheapest(unittest.TestCase):
    def assertCheapest(self, network, weights, expected=None):
        """Asserts that the answer is right, whatever flow and potentials it has. Returns the total."""
        answer = cheapest_flow(network, weights)
        self.assertIs(type(answer), tuple)
        total, flow, potentials = answer
        self.assertEqual((type(total), type(flow), type(potentials)), (int, tuple, tuple))
        self.assertTrue(is_plain_flow(network, flow))
        self.assertEqual(total, plain_total(weights, flow))
        self.assertEqual([type(potential) for potential in potentials], [int] * network[1])
        self.assertTrue(all(abs(potential) < 10 ** 100 for potential in potentials))
        self.assertTrue(plainly_supported(network, weights, bounds(network), flow, potentials))
        self.assertEqual(check_cheapest(network, weights, answer), total)
        if expected is not None:
            self.assertEqual(total, expected)
        return total

    def assertWrong(self, network, weights, answer, part):
        with self.assertRaises(InvalidAnswer) as caught:
            check_cheapest(network, weights, answer)
        self.assertEqual(caught.exception.part, part)


class Flows(Cheapest):
    def test_limit(self):
        self.assertEqual(cheapest.MAX_WEIGHT, 10 ** 6)

    def test_ordinary(self):
        self.assertEqual(cheapest_flow(N, (1, 0, 0, 1))[:2], (8, (5, 2, 2, 3)))
        self.assertEqual(cheapest_flow(N, (-1, 0, 0, 0))[:2], (-95, (95, 2, 2, 93)))
        self.assertEqual(cheapest_flow(N, (-3, 5, 0, 2))[:2], (-89, (95, 2, 2, 93)))
        self.assertCheapest(N, (0, 0, 0, 0), 0)
        self.assertCheapest(N, (0, 1, 1, 0), 4)
        self.assertCheapest(N, (1, 0, 0, -1), 2)

    def test_weights_of_the_least_and_the_greatest_size(self):
        for weights, total in (((MOST, 0, 0, MOST), 8 * MOST), ((-MOST, 0, 0, -MOST), -188 * MOST),
                               ((MOST, -MOST, MOST, -MOST), 2 * MOST), ((-MOST,) * 4, -192 * MOST),
                               ((MOST,) * 4, 12 * MOST), ((0, -MOST, 0, 0), -2 * MOST)):
            self.assertCheapest(N, weights, total)

    def test_without_pipes(self):
        for places in (1, 24):
            total, flow, potentials = cheapest_flow((10, places, ()), ())
            self.assertEqual((total, flow, len(potentials)), (0, (), places))
            self.assertCheapest((10, places, ()), (), 0)

    def test_networks_with_exactly_one_flow(self):
        for weights in ((1, 1), (-1, -1), (0, 0), (MOST, -MOST), (-MOST, MOST), (MOST, MOST)):
            self.assertCheapest(ONE_FLOW, weights, 7 * sum(weights))
        for network in (((10, 2, ((0, 1, 0, 99, 0),))), (10, 24, tuple((0, 1, 0, TOP, 0) for _ in range(60)))):
            for weight in (-MOST, -1, 0, 1, MOST):
                self.assertCheapest(network, (weight,) * len(network[2]), 0)

    def test_counts_of_the_greatest_size_with_very_many_wraps(self):
        for modulus, meter, most in ((2, 0, TOP), (2, 1, TOP - 1), (10 ** 6, 0, TOP), (10 ** 6, 999999, TOP - 1)):
            network = (modulus, 2, ((0, 1, 0, TOP, meter), (1, 0, 0, TOP, None)))
            self.assertCheapest(network, (-MOST, MOST - 1), -most)
            self.assertCheapest(network, (MOST, -MOST + 1), meter)
            self.assertCheapest(network, (-MOST, -MOST), -2 * MOST * most)
        network = (2, 2, ((0, 1, 0, TOP, 0), (0, 1, 0, TOP, 0), (1, 0, 0, TOP - 2, 0)))
        self.assertCheapest(network, (3, 2, -3), 2 - TOP)
        self.assertCheapest(network, (2, 2, -1), 0)

    def test_the_cheaper_of_several_ways(self):
        # 60 is needed. Each way takes 20, and the cheapest ones are taken first.
        ways = tuple((0, 1, 0, 20, 0) for _ in range(5))
        network = (10, 2, ways + ((1, 0, 60, 60, 0),))
        self.assertCheapest(network, (5, 4, 3, 2, 1, 0), 120)
        self.assertEqual(cheapest_flow(network, (5, 4, 3, 2, 1, 0))[1], (0, 0, 20, 20, 20, 60))
        self.assertCheapest(network, (-5, 4, -3, 2, -1, 7), 240)

    def test_a_way_that_has_to_be_given_up_in_part(self):
        # The cheapest way alone takes both pipes that two ways need.
        network = (10, 4, ((0, 1, 0, 10, 0), (1, 2, 0, 10, 0), (2, 3, 0, 10, 0), (0, 2, 0, 10, 0), (1, 3, 0, 10, 0),
                           (3, 0, 20, 20, 0)))
        self.assertEqual(cheapest_flow(network, (1, 1, 1, 5, 5, 0))[:2], (120, (10, 0, 10, 10, 10, 20)))
        self.assertCheapest(network, (1, 1, 1, 5, 5, 0), 120)

    def test_a_chain_through_all_places(self):
        for weight, total in ((MOST, 24 * 5 * MOST), (1, 24 * 5), (0, 0), (-1, -24 * 95), (-MOST, -24 * 95 * MOST)):
            self.assertCheapest((10, 24, CHAIN), (weight,) * 24, total)
        self.assertCheapest((10, 24, CHAIN), (-MOST,) * 12 + (MOST,) * 12, 0)
        self.assertCheapest((10, 24, CHAIN), (-MOST,) * 12 + (MOST,) * 11 + (MOST - 1,), -95)

    def test_open_pipes(self):
        network = (10, 3, ((0, 1, 0, 99, None), (2, 1, 0, 99, None), (1, 0, 0, 59, 0), (0, 2, 10, 99, 0)))
        self.assertCheapest(network, (1, 0, 0, 0), 0)
        self.assertCheapest(network, (-1, 0, 0, 0), -40)
        self.assertCheapest(network, (0, 3, 0, -4), -50)
        self.assertCheapest(network, (MOST, MOST, MOST, MOST), 30 * MOST)

    def test_agree_with_a_search_through_all_flows(self):
        many = 0
        for seed, (network, flows) in enumerate(small_networks(150)):
            for weights in drawn_weights(len(network[2]), seed):
                if flows:
                    self.assertCheapest(network, weights, min(plain_total(weights, flow) for flow in flows))
                    many += len(flows) > 1
                else:
                    self.assertRaises(NoFlow, cheapest_flow, network, weights)
        self.assertGreater(many, 200)

    def test_large_networks(self):
        for seed in range(40):
            network, flow = large_network(seed)
            for weights in drawn_weights(60, seed) + [(MOST,) * 60, (-MOST,) * 60]:
                self.assertLessEqual(self.assertCheapest(network, weights), plain_total(weights, flow))
            self.assertCheapest(network, (0,) * 60, 0)

    def test_totals_are_also_the_sums_with_reduced_weights(self):
        for seed in range(20):
            network, flow = large_network(seed)
            weights = drawn_weights(60, seed)[1]
            total, cheapest_one, potentials = cheapest_flow(network, weights)
            reduced = plain_reduced(network, weights, potentials)
            self.assertEqual(plain_total(reduced, cheapest_one), total)
            self.assertEqual(plain_total(reduced, flow), plain_total(weights, flow))


class Errors(Cheapest):
    def test_weights_that_are_no_tuple_with_one_item_for_each_pipe(self):
        for network in (N, N_OFF, NO_COUNT, N_EXCESS, (10, 1, ())):
            many = len(network[2])
            wrong = [(0,) * (many + 1), [0] * many, None, "0" * many, (0,) * 60, HUGE, {at: 0 for at in range(many)}]
            wrong += [value for value in strange_values() if not isinstance(value, tuple) or len(value) != many]
            wrong += [(0,) * (many - 1)] if many else [(0,), [], {}]
            for weights in wrong:
                for call in (lambda: cheapest_flow(network, weights), lambda: check_cheapest(network, weights, None)):
                    with self.assertRaises(InvalidWeights) as caught:
                        call()
                    self.assertIs(caught.exception.position, None)

    def test_items_that_are_no_weights(self):
        for network in (N, N_OFF, N_EXCESS):
            for value in strange_values() + WRONG_WEIGHTS:
                for at in range(4):
                    # Those behind it may be wrong, too.
                    for weights in ((0,) * at + (value,) + (0,) * (3 - at), (MOST,) * at + (value,) * (4 - at)):
                        for call in (lambda: cheapest_flow(network, weights),
                                     lambda: check_cheapest(network, weights, None)):
                            with self.assertRaises(InvalidWeights) as caught:
                                call()
                            self.assertEqual(caught.exception.position, at)

    def test_no_flow(self):
        for network, word in ((N_OFF, "sum"), (NO_COUNT, "pipe"), (N_EXCESS, "places")):
            weights = (1,) * len(network[2])
            for call in (lambda: cheapest_flow(network, weights), lambda: check_cheapest(network, weights, None),
                         lambda: check_cheapest(network, weights, BEST)):
                with self.assertRaises(NoFlow) as caught:
                    call()
                self.assertEqual(check_decision(network, caught.exception.reason), word)
        for seed in range(10):
            network, _ = overfull_network(seed)
            with self.assertRaises(NoFlow) as caught:
                cheapest_flow(network, (MOST,) * 60)
            self.assertEqual(check_decision(network, caught.exception.reason), "places")


class Checks(Cheapest):
    def test_right_answers(self):
        self.assertEqual(check_cheapest(N, (1, 0, 0, 1), BEST), 8)
        for potentials in ((0, 0, 0), (1, 0, 1), (-1, 0, 1), (0, 1, 7), (0, -1, HUGE), (0, 0, HUGE), (-1, -2, 0)):
            self.assertEqual(check_cheapest(N, (1, 0, 0, 1), (8, (5, 2, 2, 3), potentials)), 8)
        for potentials in ((1, 0, 0), (2, 0, 2), (0, 2, 0), (0, -2, 0), (0, 0, -1), (0, 0, -HUGE)):
            self.assertWrong(N, (1, 0, 0, 1), (8, (5, 2, 2, 3), potentials), "potentials")

    def test_potentials_of_any_size(self):
        for shift in (1, -MOST, 10 ** 99, 10 ** 998, -10 ** 998, HUGE):
            self.assertEqual(check_cheapest(N, (1, 0, 0, 1), (8, (5, 2, 2, 3), (shift,) * 3)), 8)
        for potentials in ((HUGE, -HUGE, 0), (-HUGE, HUGE, 0), (HUGE, 0, 0), (0, HUGE, 0)):
            self.assertWrong(N, (1, 0, 0, 1), (8, (5, 2, 2, 3), potentials), "potentials")
            self.assertEqual(check_cheapest(ONE_FLOW, (1, 1), (14, (7, 7), potentials[:2])), 14)

    def test_accepts_just_what_supports(self):
        spans = [(left, right) for left in range(-4, 5) for right in range(-4, 5)]
        for seed, (network, flows) in enumerate(small_networks(60)):
            limits = plain_bounds(network) if flows else ()
            for weights in drawn_weights(len(network[2]), seed)[:1]:
                for flow in flows[:4] + flows[-2:]:
                    total = plain_total(weights, flow)
                    for left, right in spans:
                        potentials = (0, left, right, left - right, right)[:network[1]]
                        if plainly_supported(network, weights, limits, flow, potentials):
                            self.assertEqual(check_cheapest(network, weights, (total, flow, potentials)), total)
                            self.assertWrong(network, weights, (total + 1, flow, potentials), "total")
                            self.assertEqual(total, min(plain_total(weights, other) for other in flows))
                        else:
                            self.assertWrong(network, weights, (total, flow, potentials), "potentials")

    def test_form(self):
        for answer in (None, (), (8,), (8, (5, 2, 2, 3)), BEST + (0,), list(BEST), "abc", 8, {0: 8}):
            self.assertWrong(N, (1, 0, 0, 1), answer, "form")
        for value in strange_values():
            if not isinstance(value, tuple) or len(value) != 3:
                self.assertWrong(N, (1, 0, 0, 1), value, "form")

    def test_no_flow_in_the_answer(self):
        for counts in ((), (5, 2, 2), [5, 2, 2, 3], None, (5, 2, 2, 13), (105, 2, 2, 103), (5, True, 2, 3), HUGE,
                       (-5, 2, 2, -7), (5, 2, HUGE, 3)):
            for total in (8, None, 9):
                for potentials in ((0, 0, 0), None, (2, 0, 0)):
                    self.assertWrong(N, (1, 0, 0, 1), (total, counts, potentials), "flow")
            self.assertRaises(InvalidFlow, check_flow, N, counts)
        for value in strange_values() + [HUGE]:
            self.assertWrong(N, (1, 0, 0, 1), (8, value, (0, 0, 0)), "flow")
            self.assertWrong(N, (1, 0, 0, 1), (value, value, value), "flow")
            self.assertWrong(N, (1, 0, 0, 1), (8, (5, value, 2, 3), (0, 0, 0)), "flow")

    def test_no_potentials(self):
        for value in strange_values() + [(), (0,), (0, 0), (0, 0, 0, 0), [0, 0, 0], HUGE, 0]:
            for total in (8, 9, None, value):
                self.assertWrong(N, (1, 0, 0, 1), (total, (5, 2, 2, 3), value), "potentials")
        for value in strange_values():
            for at in range(3):
                potentials = (0,) * at + (value,) + (0,) * (2 - at)
                self.assertWrong(N, (1, 0, 0, 1), (8, (5, 2, 2, 3), potentials), "potentials")
            # Also where any integers would do.
            self.assertWrong(N, (0, 0, 0, 0), (0, (5, 2, 2, 3), (value, value, value)), "potentials")
            self.assertWrong((10, 1, ()), (), (0, (), (value,)), "potentials")

    def test_flows_that_are_not_cheapest(self):
        for count in (15, 55, 95):
            flow = (count, 2, 2, count - 2)
            for potentials in ((0, 0, 0), (1, 0, 0), (0, 1, 0), (-1, 0, 0), (0, 0, 99), cheapest_flow(N, (1, 0, 0, 1))[2]):
                self.assertWrong(N, (1, 0, 0, 1), (2 * count - 2, flow, potentials), "potentials")

    def test_wrong_totals(self):
        for total in (7, 9, 0, -8, 8 + 10, HUGE, -HUGE):
            self.assertWrong(N, (1, 0, 0, 1), (total, (5, 2, 2, 3), (0, 0, 0)), "total")
        for value in strange_values():
            self.assertWrong(N, (1, 0, 0, 1), (value, (5, 2, 2, 3), (0, 0, 0)), "total")
        for weights, total in (((0, 0, 0, 0), False), ((0, 0, 0, 0), None)):
            self.assertWrong(N, weights, (total, (5, 2, 2, 3), (0, 0, 0)), "total")
        one = (2, 2, ((0, 1, 0, 1, 1), (1, 0, 0, 1, 1)))
        self.assertEqual(check_cheapest(one, (1, 0), (1, (1, 1), (0, 0))), 1)
        self.assertWrong(one, (1, 0), (True, (1, 1), (0, 0)), "total")

    def test_changed_answers_in_large_networks(self):
        refused = {"flow": 0, "potentials": 0, "total": 0}
        for seed in range(25):
            network, other = large_network(seed)
            weights = drawn_weights(60, seed)[1]
            total, flow, potentials = cheapest_flow(network, weights)
            at = seed % 60
            changed = [(total + 1, flow, potentials), (total, flow[:at] + (flow[at] + 1,) + flow[at + 1:], potentials),
                       (total, flow, potentials[:-1]), (total, flow, list(potentials))]
            for answer, part in zip(changed, ("total", "flow", "potentials", "potentials")):
                self.assertWrong(network, weights, answer, part)
                refused[part] += 1
            moved = tuple(potential + (10 ** 9 if place % 2 else 0) for place, potential in enumerate(potentials))
            if not plainly_supported(network, weights, bounds(network), flow, moved):
                self.assertWrong(network, weights, (total, flow, moved), "potentials")
                refused["potentials"] += 1
            if plain_total(weights, other) > total:
                answer = (plain_total(weights, other), other, potentials)
                self.assertWrong(network, weights, answer, "potentials")
        self.assertGreaterEqual(min(refused.values()), 25)

    def test_values_are_not_visited(self):
        for deep in (crowded(2), crowded(5), crowded(90), nested(97, lambda value: [value])):
            self.assertWrong(N, (1, 0, 0, 1), (deep, (5, 2, 2, 3), (0, 0, 0)), "total")
            self.assertWrong(N, (1, 0, 0, 1), (8, deep, (0, 0, 0)), "flow")
            self.assertWrong(N, (1, 0, 0, 1), (8, (5, 2, 2, 3), (0, 0, deep)), "potentials")
            self.assertRaises(InvalidWeights, cheapest_flow, N, (0, 0, 0, deep))


if __name__ == "__main__":
    unittest.main()
