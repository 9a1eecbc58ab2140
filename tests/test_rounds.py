"""Tests of wrapcount.rounds: points 55 to 57, and the errors of its functions."""

import unittest

from tests.samples import HUGE, Touchy, all_flows, closes_ring, crowded, drawn_rounds, is_plain_flow, nested
from tests.samples import plain_reasons, plain_rounds, plainly_open, strange_values
from wrapcount.decisions import check_decision, decide
from wrapcount.errors import InvalidLevels, InvalidNetwork, InvalidPlan, InvalidReadings, WrapcountError
from wrapcount.networks import check_network
from wrapcount.rounds import decide_rounds, rounds_network

TOP = 10 ** 12
# The example of the document.
PLAN = (10, 2, ((0, 1, 0, 20), (1, 0, 0, 20)), ((1, 9),))
READINGS = ((5, 3), (4, 9))
LEVELS = ((0,), (None,))
BOTH = (rounds_network, decide_rounds)
# A plan without pipes and tanks.
EMPTY = (10, 1, (), ())


class Rounds(unittest.TestCase):
    def assertAnswer(self, plan, readings, levels, word=None):
        """Asserts that the answer is right, whatever flow or reason it has. Returns it."""
        network = plain_rounds(plan, readings, levels)
        self.assertEqual(rounds_network(plan, readings, levels), network)
        answer = decide_rounds(plan, readings, levels)
        self.assertIs(type(answer), tuple)
        if answer[0] == "flow":
            self.assertEqual(len(answer), 3)
            self.assertFlow(plan, readings, levels, answer[1], answer[2])
        else:
            self.assertEqual(check_decision(network, answer), answer[0])
            self.assertEqual(answer, decide(network))
        if word is not None:
            self.assertEqual(answer[0], word)
        return answer

    def assertFlow(self, plan, readings, levels, counts, kept):
        modulus, places, pipes, tanks = plan
        for value, many, length in ((counts, len(readings), len(pipes)), (kept, len(tanks), len(readings) + 1)):
            self.assertEqual([type(value)] + [type(row) for row in value], [tuple] * (many + 1))
            self.assertEqual([len(row) for row in value], [length] * many)
        for row, meters in zip(counts, readings):
            for count, meter, (_, _, low, high) in zip(row, meters, pipes):
                self.assertTrue(low <= count <= high and (meter is None or count % modulus == meter))
        for one, (_, size), first, last in zip(kept, tanks, levels[0], levels[1]):
            self.assertTrue(all(0 <= level <= size for level in one))
            self.assertIn(first, (None, one[0]))
            self.assertIn(last, (None, one[-1]))
        held = dict(zip([place for place, _ in tanks], kept))
        for at, row in enumerate(counts):
            for place in range(1, places):
                brought = sum(count for count, pipe in zip(row, pipes) if pipe[1] == place)
                taken = sum(count for count, pipe in zip(row, pipes) if pipe[0] == place)
                before, after = held[place][at:at + 2] if place in held else (0, 0)
                self.assertEqual(before + brought, taken + after)
        flow = tuple(count for row in counts + kept for count in row)
        self.assertTrue(is_plain_flow(plain_rounds(plan, readings, levels), flow))

    def assertFails(self, arguments, error, fields):
        for function in BOTH:
            with self.assertRaises(WrapcountError) as caught:
                function(*arguments)
            self.assertIs(type(caught.exception), error)
            found = list(vars(caught.exception).values())
            self.assertEqual(len(found), len(fields))
            for field, expected in zip(found, fields):
                self.assertEqual((type(field), field), (type(expected), expected))


class Networks(Rounds):
    def test_ordinary(self):
        self.assertEqual(rounds_network(PLAN, READINGS, LEVELS), (10, 3, (
            (0, 1, 0, 20, 5), (1, 0, 0, 20, 3), (0, 2, 0, 20, 4), (2, 0, 0, 20, 9),
            (0, 1, 0, 0, None), (1, 2, 0, 9, None), (2, 0, 0, 9, None))))
        self.assertEqual(decide_rounds(PLAN, READINGS, LEVELS), ("flow", ((5, 3), (14, 9)), ((0, 2, 7),)))
        self.assertAnswer(PLAN, READINGS, LEVELS, "flow")

    def test_one_place(self):
        for many in (1, 2, 24, 60, 1000):
            self.assertEqual(rounds_network(EMPTY, ((),) * many, ((), ())), (10, 1, ()))
            self.assertEqual(decide_rounds(EMPTY, ((),) * many, ((), ())), ("flow", ((),) * many, ()))

    def test_without_pipes(self):
        plan = (10, 3, (), ((2, 7),))
        for first in range(8):
            self.assertEqual(decide_rounds(plan, ((), ()), ((first,), (None,))), ("flow", ((), ()), ((first,) * 3,)))
        self.assertAnswer(plan, ((), ()), ((3,), (4,)), "sum")
        self.assertAnswer((10, 3, (), ((2, 20),)), ((), ()), ((3,), (13,)), "places")
        self.assertAnswer((10, 24, (), ()), ((),), ((), ()), "flow")

    def test_without_tanks(self):
        plan = PLAN[:3] + ((),)
        self.assertEqual(rounds_network(plan, ((5, 5), (4, None)), ((), ())),
                         (10, 3, ((0, 1, 0, 20, 5), (1, 0, 0, 20, 5), (0, 2, 0, 20, 4), (2, 0, 0, 20, None))))
        self.assertAnswer(plan, ((5, 5), (4, None)), ((), ()), "flow")
        self.assertAnswer(plan, READINGS, ((), ()), "sum")

    def test_one_round(self):
        self.assertEqual(rounds_network(PLAN, ((5, 3),), ((4,), (None,))), (10, 2, (
            (0, 1, 0, 20, 5), (1, 0, 0, 20, 3), (0, 1, 4, 4, None), (1, 0, 0, 9, None))))
        self.assertEqual(decide_rounds(PLAN, ((5, 3),), ((4,), (None,)))[2], ((4, 6),))
        self.assertAnswer(PLAN, ((5, 3),), ((4,), (6,)), "flow")
        self.assertAnswer(PLAN, ((5, 3),), ((4,), (7,)), "sum")
        self.assertAnswer(PLAN, ((5, 3),), ((8,), (0,)), "flow")
        self.assertAnswer(PLAN, ((5, None),), ((4,), (6,)), "flow")
        self.assertAnswer((10, 2, ((0, 1, 0, 5),), ((1, 9),)), ((5,),), ((4,), (9,)), "flow")
        self.assertAnswer((100, 2, ((0, 1, 0, 5),), ((1, 9),)), ((5,),), ((5,), (None,)), "pipe")

    def test_sizes_of_0_and_of_the_greatest_size(self):
        for size in (0, TOP):
            plan = (10, 2, PLAN[2], ((1, size),))
            for levels in (((0,), (0,)), ((size,), (None,)), ((None,), (0,)), ((size,), (size,))):
                self.assertAnswer(plan, ((5, 5), (4, 4)), levels)
        # A tank of size 0 has no open pipes, also if its levels are not known.
        self.assertAnswer((10, 2, PLAN[2], ((1, 0),)), ((5, 5), (4, None)), ((None,), (None,)), "flow")
        self.assertAnswer((10, 2, PLAN[2], ((1, 0),)), READINGS, ((None,), (None,)), "sum")
        plan = (10, 2, ((0, 1, 0, TOP), (1, 0, 0, TOP)), ((1, TOP),))
        self.assertAnswer(plan, ((0, 0), (0, 0)), ((TOP,), (0,)), "flow")
        self.assertAnswer(plan, ((0, None), (0, 0)), ((0,), (TOP,)), "flow")
        self.assertAnswer((10, 2, ((1, 0, 0, 10),), ((1, TOP),)), ((0,), (0,)), ((TOP,), (TOP - 30,)), "places")

    def test_the_latest_level_and_the_first_one(self):
        levels = decide_rounds(PLAN, ((5, 3), (4, 9)), ((None,), (7,)))[2]
        self.assertEqual(levels[0][2], 7)
        self.assertAnswer(PLAN, ((5, 3), (4, 9)), ((None,), (7,)), "flow")
        self.assertAnswer(PLAN, ((5, 3), (4, None)), ((3,), (7,)), "flow")

    def test_several_tanks(self):
        plan = (10, 4, ((0, 1, 0, 99), (1, 2, 0, 99), (2, 3, 0, 99), (3, 0, 0, 99)), ((1, 5), (2, 50), (3, 9)))
        readings = ((5, 3, 4, 4), (1, 2, 3, 4), (7, 7, 0, 9))
        network = rounds_network(plan, readings, ((0, 1, 2), (None, None, 9)))
        self.assertEqual(network[1], 10)
        self.assertEqual(network[2][12:], (
            (0, 1, 0, 0, None), (1, 4, 0, 5, None), (4, 7, 0, 5, None), (7, 0, 0, 5, None),
            (0, 2, 1, 1, None), (2, 5, 0, 50, None), (5, 8, 0, 50, None), (8, 0, 0, 50, None),
            (0, 3, 2, 2, None), (3, 6, 0, 9, None), (6, 9, 0, 9, None), (9, 0, 9, 9, None)))
        self.assertEqual(network[2][:5], ((0, 1, 0, 99, 5), (1, 2, 0, 99, 3), (2, 3, 0, 99, 4), (3, 0, 0, 99, 4),
                                          (0, 4, 0, 99, 1)))
        self.assertAnswer(plan, readings, ((0, 1, 2), (None, None, 9)))

    def test_as_many_places_and_pipes_as_possible(self):
        # 23 rounds of 2 places are 24 places.
        plan = (10, 2, ((0, 1, 0, 20), (1, 0, 0, 20)), ((1, 9),))
        self.assertEqual(rounds_network(plan[:3] + ((),), ((5, 5),) * 23, ((), ()))[1], 24)
        network = rounds_network(plan, ((5, 3), (3, 5)) * 9 + ((5, 3),), ((0,), (None,)))
        self.assertEqual((network[1], len(network[2])), (20, 58))
        self.assertAnswer(plan, ((5, 3), (3, 5)) * 9 + ((5, 3),), ((0,), (None,)), "flow")
        wide = (10, 24, tuple((0, 1 + at % 23, 0, 99) for at in range(60)), ())
        self.assertEqual(len(rounds_network(wide, ((5,) * 60,), ((), ()))[2]), 60)
        self.assertAnswer(wide, ((5,) * 60,), ((), ()), "sum")

    def test_true_readings(self):
        for rounds in (1, 2, 3, 5):
            for seed in range(60):
                plan, readings, levels, counts, kept = drawn_rounds(seed, rounds)
                self.assertFlow(plan, readings, levels, counts, kept)
                if len(plain_rounds(plan, readings, levels)[2]) <= 60:
                    self.assertAnswer(plan, readings, levels, "flow")

    def test_true_readings_with_many_wraps(self):
        for seed in range(60):
            plan, readings, levels, counts, kept = drawn_rounds(seed, 2, 10 ** 11)
            plan = (plan[0] % 100 + 2,) + plan[1:]
            readings = tuple(tuple(None if meter is None else count % plan[0] for meter, count in zip(*rows))
                             for rows in zip(readings, counts))
            self.assertFlow(plan, readings, levels, counts, kept)
            self.assertAnswer(plan, readings, levels, "flow")

    def test_all_is_determined_if_counts_cannot_wrap(self):
        many = 0
        for seed in range(60):
            plan, readings, levels, counts, kept = drawn_rounds(seed, 2)
            # A modulus beyond all counts, and all meters and levels are known.
            plan = (10 ** 6,) + plan[1:]
            levels = (tuple(one[0] for one in kept), tuple(one[-1] for one in kept))
            if not closes_ring(plain_rounds(plan, counts, levels)[1],
                               [pipe for pipe in plain_rounds(plan, counts, levels)[2] if plainly_open(pipe)]):
                self.assertEqual(decide_rounds(plan, counts, levels), ("flow", counts, kept))
                many += 1
        self.assertGreater(many, 50)

    def test_changed_readings(self):
        seen = {"flow": 0, "sum": 0, "pipe": 0, "places": 0}
        for seed in range(200):
            plan, readings, levels, _, _ = drawn_rounds(seed, 1 + seed % 3, 3 + seed % 9)
            rows = [list(row) for row in readings]
            row = rows[seed % len(rows)]
            at = seed % len(row)
            if row[at] is not None:
                row[at] = (row[at] + 1) % plan[0]
                answer = self.assertAnswer(plan, tuple(tuple(one) for one in rows), levels)
                seen[answer[0]] += 1
        self.assertGreater(seen["sum"], 20)
        self.assertGreater(seen["flow"], 5)

    def test_agree_with_a_search(self):
        seen = {"flow": 0, "sum": 0, "pipe": 0, "places": 0}
        for low in range(3):
            for size in (0, 2):
                for meters in ((0, 0), (1, None), (2, 1), (None, 2), (1, 0)):
                    for first in (0, size):
                        for last in (None, 0, size):
                            plan = (3, 2, ((0, 1, low, low + 1), (1, 0, 1, 3)), ((1, size),))
                            arguments = (plan, (meters, (2, 0)), ((first,), (last,)))
                            network = plain_rounds(*arguments)
                            if closes_ring(network[1], [pipe for pipe in network[2] if plainly_open(pipe)]):
                                continue
                            answer = self.assertAnswer(*arguments)
                            self.assertEqual(answer[0] == "flow", len(all_flows(network)) > 0)
                            if answer[0] != "flow":
                                self.assertIn(answer, plain_reasons(network))
                            seen[answer[0]] += 1
        self.assertGreater(min(seen.values()), 0)


class Plans(Rounds):
    def assertWrongPlan(self, plan, part, index=None):
        # The other arguments are looked at only if the plan is right.
        for others in ((READINGS, LEVELS), (None, None), (crowded(2), Touchy())):
            self.assertFails((plan,) + others, InvalidPlan, (part, index))

    def test_form(self):
        for plan in (None, (), PLAN[:3], PLAN + ((),), list(PLAN), "abcd", 4, {0: 10, 1: 2, 2: (), 3: ()}):
            self.assertWrongPlan(plan, "form")
        for value in strange_values():
            if not isinstance(value, tuple) or len(value) != 4:
                self.assertWrongPlan(value, "form")

    def test_modulus_and_places(self):
        for value in strange_values() + [1, 0, -1, 10 ** 6 + 1, HUGE, -HUGE]:
            self.assertWrongPlan((value,) + PLAN[1:], "modulus")
            self.assertWrongPlan((value, value, value, value), "modulus")
        for value in strange_values() + [0, -1, 25, HUGE, -HUGE]:
            self.assertWrongPlan((10, value) + PLAN[2:], "places")
            self.assertWrongPlan((10, value, value, value), "places")
        for modulus in (2, 10 ** 6):
            self.assertEqual(rounds_network((modulus, 1, (), ()), ((),), ((), ())), (modulus, 1, ()))
        for places in (1, 24):
            self.assertEqual(rounds_network((10, places, (), ()), ((),), ((), ())), (10, places, ()))

    def test_pipes(self):
        for pipes in ([], None, list(PLAN[2]), 0, (PLAN[2][0],) * 61, (None,) * 61, "pipes", {}):
            self.assertWrongPlan((10, 2, pipes, PLAN[3]), "pipes")
            self.assertWrongPlan((10, 2, pipes, None), "pipes")
        right = (0, 1, 0, 20)
        wrong = [(), right[:3], right + (5,), right + (None,), list(right), (1, 1, 0, 20), (0, 2, 0, 20), (2, 0, 0, 20),
                 (-1, 1, 0, 20), (0, -1, 0, 20), (0, 1, -1, 20), (0, 1, 21, 20), (0, 1, 0, TOP + 1), (0, 1, HUGE, HUGE),
                 (0, 1, 0, None), (0, 1, None, 20), (False, 1, 0, 20), (0, True, 0, 20), (0, 1, False, 20),
                 (0, 1, 0, True), (0, 1, 0, "20"), ((0,), 1, 0, 20)]
        for pipe in wrong + strange_values():
            for at in (0, 1, 5):
                self.assertWrongPlan((10, 2, (right,) * at + (pipe,) + (None,), PLAN[3]), "pipes", at)
                self.assertWrongPlan((10, 2, (right,) * at + (pipe,), None), "pipes", at)
        for value in strange_values():
            for at in range(4):
                pipe = right[:at] + (value,) + right[at + 1:]
                self.assertWrongPlan((10, 2, (pipe, pipe), ()), "pipes", 0)

    def test_tanks(self):
        for tanks in ([], None, list(PLAN[3]), 0, "tanks", {}, {1: 9}):
            self.assertWrongPlan((10, 4, PLAN[2], tanks), "tanks")
        wrong = [(), (2,), (2, 9, 9), [2, 9], (0, 9), (4, 9), (-1, 9), (2, -1), (2, TOP + 1), (2, HUGE), (HUGE, 9),
                 (2, None), (None, 9), (True, 9), (2, True), (2, False), (2, "9"), ((2,), 9), (2, [9]), {2: 9}]
        for tank in wrong + strange_values():
            self.assertWrongPlan((10, 4, PLAN[2], (tank, (3, 9))), "tanks", 0)
            self.assertWrongPlan((10, 4, PLAN[2], ((1, 0), tank, None)), "tanks", 1)
        # The places have to ascend.
        for tanks, index in ((((1, 9), (1, 9)), 1), (((2, 9), (1, 9)), 1), (((1, 9), (3, 9), (2, 9)), 2),
                             (((1, 9), (2, 9), (2, 8), (1, 9)), 2), (((1, 9), (2, 9), (3, 9), (4, 9)), 3)):
            self.assertWrongPlan((10, 4, PLAN[2], tanks), "tanks", index)
        self.assertWrongPlan((10, 1, (), ((1, 9),)), "tanks", 0)
        for value in strange_values():
            self.assertWrongPlan((10, 4, (), ((value, 9),)), "tanks", 0)
            self.assertWrongPlan((10, 4, (), ((1, value),)), "tanks", 0)

    def test_the_first_fault_of_several(self):
        self.assertWrongPlan((1, 0, None, None), "modulus")
        self.assertWrongPlan((10, 0, None, None), "places")
        self.assertWrongPlan((10, 2, None, None), "pipes")
        self.assertWrongPlan((10, 2, (None, None), None), "pipes", 0)
        self.assertWrongPlan((10, 2, PLAN[2], None), "tanks")
        self.assertWrongPlan((10, 2, PLAN[2], (None, None)), "tanks", 0)


class Readings(Rounds):
    def assertWrong(self, readings, index=None, pipe=None, plan=PLAN):
        for levels in (LEVELS, None, crowded(2), Touchy()):
            self.assertFails((plan, readings, levels), InvalidReadings, (index, pipe))

    def test_no_tuple_of_rounds(self):
        for readings in (None, (), [], list(READINGS), 5, "ab", {0: (5, 3)}):
            self.assertWrong(readings)
        for value in strange_values():
            if not isinstance(value, tuple):
                self.assertWrong(value)
                self.assertWrong(value, plan=EMPTY)

    def test_no_round(self):
        for meters in ((), (5,), (5, 3, 3), [5, 3], None, 5, "53", {0: 5, 1: 3}):
            for at in (0, 1, 30):
                self.assertWrong(((5, 3),) * at + (meters,), at)
                self.assertWrong(((5, 3),) * at + (meters, (10, None), None), at)
        for value in strange_values():
            if not isinstance(value, tuple) or len(value) != 2:
                self.assertWrong(((5, 3), value), 1)
                self.assertWrong((value, (5, None)), 0)
            if not isinstance(value, tuple) or len(value) != 0:
                self.assertWrong(((), value), 1, plan=EMPTY)

    def test_no_meter(self):
        for meter in (10, -1, 11, HUGE, -HUGE):
            self.assertWrong(((5, 3), (meter, meter)), 1, 0)
            self.assertWrong(((5, meter), (meter, meter)), 0, 1)
        for value in strange_values():
            if value is not None:
                self.assertWrong(((value, value), None), 0, 0)
                self.assertWrong(((5, None), (None, value), (10, 3)), 1, 1)
        for meter in (0, 9, None):
            self.assertEqual(rounds_network(PLAN, ((meter, 3),), ((0,), (0,)))[2][0][4], meter)

    def test_each_round_is_checked_completely_before_the_next_one(self):
        self.assertWrong(((5, 10), None), 0, 1)
        self.assertWrong(((5, 3), (5, 10), None), 1, 1)
        self.assertWrong(((5, 3), (5,), (10, 3)), 1)


class Levels(Rounds):
    TWO = (10, 3, ((0, 1, 0, 20),), ((1, 9), (2, 5)))

    def assertWrong(self, levels, part, tank=None):
        for readings in (((5,),), ((None,), (5,))):
            self.assertFails((self.TWO, readings, levels), InvalidLevels, (part, tank))

    def test_no_pair(self):
        for levels in (None, (), ((0, 0),), ((0, 0), (0, 0), (0, 0)), [(0, 0), (0, 0)], "ab", {0: (0, 0), 1: (0, 0)}):
            self.assertWrong(levels, "form")
        for value in strange_values():
            if not isinstance(value, tuple) or len(value) != 2:
                self.assertWrong(value, "form")

    def test_no_tuple_with_one_item_for_each_tank(self):
        for told in ((), (0,), (0, 0, 0), [0, 0], None, 0, "00", {0: 0, 1: 0}):
            for other in ((0, 0), None, (10, 6)):
                self.assertWrong((told, other), "first")
            self.assertWrong(((0, 0), told), "last")
            self.assertWrong(((None, None), told), "last")
        for value in strange_values():
            if not isinstance(value, tuple) or len(value) != 2:
                self.assertWrong((value, value), "first")
                self.assertWrong(((9, 5), value), "last")

    def test_no_level(self):
        for level in (-1, 10, 11, HUGE, -HUGE):
            self.assertWrong(((level, level), None), "first", 0)
            self.assertWrong(((9, level), (level, level)), "first", 1)
            self.assertWrong(((9, 5), (level, level)), "last", 0)
            self.assertWrong(((9, 5), (0, level)), "last", 1)
        # The second tank is smaller.
        self.assertWrong(((6, 6), (None, None)), "first", 1)
        self.assertWrong(((6, None), (6, 6)), "last", 1)
        for value in strange_values():
            if value is not None:
                self.assertWrong(((value, value), None), "first", 0)
                self.assertWrong(((None, value), None), "first", 1)
                self.assertWrong(((None, 5), (9, value)), "last", 1)

    def test_without_tanks(self):
        for function in BOTH:
            function(EMPTY, ((),), ((), ()))
            for levels in (((0,), ()), ((None,), ())):
                self.assertRaises(InvalidLevels, function, EMPTY, ((),), levels)
            for levels in (((), (0,)), ((), None), ((), [])):
                with self.assertRaises(InvalidLevels) as caught:
                    function(EMPTY, ((),), levels)
                self.assertEqual((caught.exception.part, caught.exception.tank), ("last", None))

    def test_the_first_fault_of_several(self):
        self.assertFails((None, None, None), InvalidPlan, ("form", None))
        self.assertFails((self.TWO, None, None), InvalidReadings, (None, None))
        self.assertFails((self.TWO, ((10,),), None), InvalidReadings, (0, 0))
        self.assertFails((self.TWO, ((5,),), None), InvalidLevels, ("form", None))
        self.assertFails((self.TWO, ((5,),) * 12, ((10, 0), None)), InvalidLevels, ("first", 0))


class WrongNetworks(Rounds):
    def test_too_many_places(self):
        plan = PLAN[:3] + ((),)
        self.assertEqual(rounds_network(plan, ((5, 5),) * 23, ((), ()))[1], 24)
        self.assertFails((plan, ((5, 5),) * 24, ((), ())), InvalidNetwork, ("places",))
        self.assertFails((plan, ((5, 5),) * 1000, ((), ())), InvalidNetwork, ("places",))
        self.assertFails(((10, 24, (), ()), ((), ()), ((), ())), InvalidNetwork, ("places",))
        self.assertFails(((10, 13, (), ()), ((), ()), ((), ())), InvalidNetwork, ("places",))
        self.assertEqual(rounds_network((10, 12, (), ()), ((), ()), ((), ()))[1], 23)

    def test_too_many_pipes(self):
        many = (10, 3, tuple((0, 1, 0, 20) for _ in range(20)), ())
        self.assertEqual(len(rounds_network(many, ((5,) * 20,) * 3, ((), ()))[2]), 60)
        self.assertFails((many, ((5,) * 20,) * 4, ((), ())), InvalidNetwork, ("pipes",))
        # The pipes of a tank make it too many.
        tank = many[:3] + (((1, 9),),)
        self.assertFails((tank, ((5,) * 20,) * 3, ((0,), (0,))), InvalidNetwork, ("pipes",))
        self.assertEqual(len(rounds_network(tank, ((5,) * 20,) * 2, ((0,), (0,)))[2]), 43)
        # Too many places are found first, and a ring last.
        self.assertFails((many, ((5,) * 20,) * 12, ((), ())), InvalidNetwork, ("places",))
        self.assertFails((many, ((None,) * 20,) * 4, ((), ())), InvalidNetwork, ("pipes",))

    def test_rings(self):
        self.assertFails((PLAN, READINGS, ((None,), (None,))), InvalidNetwork, ("ring",))
        self.assertFails((PLAN, ((5, 3),), ((None,), (None,))), InvalidNetwork, ("ring",))
        self.assertFails((PLAN, ((None, None),), ((0,), (0,))), InvalidNetwork, ("ring",))
        self.assertFails((PLAN, ((5, None), (5, 3)), ((None,), (0,))), InvalidNetwork, ("ring",))
        # Through two rounds and the tank between them.
        self.assertFails((PLAN, ((5, None), (None, 3)), ((0,), (0,))), InvalidNetwork, ("ring",))
        self.assertEqual(len(rounds_network(PLAN, ((5, None), (5, 3)), ((0,), (0,)))[2]), 7)
        # The tank has no size, and so its pipes are closed.
        small = PLAN[:3] + (((1, 0),),)
        self.assertEqual(len(rounds_network(small, ((5, None), (None, 3)), ((None,), (None,)))[2]), 7)

    def test_rings_of_drawn_plans(self):
        seen = {True: 0, False: 0}
        for seed in range(120):
            plan, readings, levels, _, _ = drawn_rounds(seed, 2)
            rows = [list(row) for row in readings]
            rows[seed % 2][seed % len(rows[0])] = None
            if seed % 3 == 0:
                levels = ((None,) * len(plan[3]), levels[1])
            network = plain_rounds(plan, rows, levels)
            arguments = (plan, tuple(tuple(row) for row in rows), levels)
            wrong = closes_ring(network[1], [pipe for pipe in network[2] if plainly_open(pipe)])
            seen[wrong] += 1
            if wrong:
                self.assertFails(arguments, InvalidNetwork, ("ring",))
                self.assertRaises(InvalidNetwork, check_network, network)
            else:
                self.assertAnswer(*arguments)
        self.assertGreater(min(seen.values()), 20)


class Values(Rounds):
    def test_values_are_not_visited(self):
        for deep in (crowded(2), crowded(4), crowded(90), nested(97, lambda value: [value])):
            for arguments in ((deep, READINGS, LEVELS), ((10, 2, (deep,), ()), READINGS, LEVELS),
                              ((10, 2, (), (deep,)), READINGS, LEVELS), (PLAN, deep, LEVELS),
                              (PLAN, ((5, deep),), LEVELS), (PLAN, READINGS, deep), (PLAN, READINGS, ((deep,), deep))):
                for function in BOTH:
                    with self.assertRaises(WrapcountError) as caught:
                        function(*arguments)
                    self.assertLess(len(repr(caught.exception)), 200)

    def test_results_are_tuples_of_integers(self):
        counts, levels = decide_rounds(PLAN, READINGS, LEVELS)[1:]
        for row in counts + levels:
            self.assertEqual({type(item) for item in row}, {int})
        self.assertEqual([type(pipe) for pipe in rounds_network(PLAN, READINGS, LEVELS)[2]], [tuple] * 7)


if __name__ == "__main__":
    unittest.main()
