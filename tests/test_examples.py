"""The examples of the document, as they stand there."""

import unittest

from wrapcount.cheapest import check_cheapest, cheapest_flow
from wrapcount.console import Console
from wrapcount.corrections import corrections
from wrapcount.decisions import check_decision, decide
from wrapcount.errors import InvalidAnswer, InvalidFlow, InvalidNetwork
from wrapcount.flows import check_flow, is_flow
from wrapcount.keys import cheapest_key, check_cheapest_key, flow_by_key, is_key, loose_pipes
from wrapcount.listing import count_flows, flow_by_rank, list_flows, rank_of_flow
from wrapcount.networks import check_network, entering, groups, is_network, is_open, leaving, open_pipes
from wrapcount.ranges import check_greatest, greatest_count, least_count, ranges
from wrapcount.record import Record
from wrapcount.recordtext import read_record, record_text
from wrapcount.residues import bounds, excess, group_sums, residues
from wrapcount.rounds import decide_rounds, rounds_network
from wrapcount.variants import add_networks, renumber_places, reverse_pipes


class Networks(unittest.TestCase):
    def test_check_network(self):
        with self.assertRaises(InvalidNetwork) as caught:
            check_network((10, 2, ((0, 1, 0, 9, None), (1, 0, 0, 9, None))))
        self.assertEqual(caught.exception.part, "ring")

    def test_is_network(self):
        self.assertIs(is_network((10, 2, ((0, 1, 0, 9, 10),))), False)

    def test_is_open(self):
        self.assertIs(
            is_open((10, 3, ((0, 1, 0, 99, 5), (1, 2, 0, 9, None), (2, 0, 0, 99, 2), (1, 0, 0, 99, 3))), 1),
            True)

    def test_open_pipes(self):
        self.assertEqual(
            open_pipes((10, 3, ((0, 1, 0, 99, 5), (1, 2, 0, 9, None), (2, 0, 0, 99, 2), (1, 0, 0, 99, 3)))),
            (1,))

    def test_groups(self):
        self.assertEqual(
            groups((10, 3, ((0, 1, 0, 99, 5), (1, 2, 0, 9, None), (2, 0, 0, 99, 2), (1, 0, 0, 99, 3)))),
            ((0,), (1, 2)))

    def test_entering(self):
        self.assertEqual(
            entering((10, 3, ((0, 1, 0, 99, 5), (1, 2, 0, 9, None), (2, 0, 0, 99, 2), (1, 0, 0, 99, 3))), (1, 2)),
            (0,))

    def test_leaving(self):
        self.assertEqual(
            leaving((10, 3, ((0, 1, 0, 99, 5), (1, 2, 0, 9, None), (2, 0, 0, 99, 2), (1, 0, 0, 99, 3))), (1, 2)),
            (2, 3))


class Residues(unittest.TestCase):
    def test_group_sums(self):
        self.assertEqual(
            group_sums((10, 3, ((0, 1, 0, 99, 5), (1, 2, 0, 9, None), (2, 0, 0, 99, 2), (1, 0, 0, 99, 4)))),
            (((0,), 1), ((1, 2), 9)))

    def test_residues(self):
        self.assertEqual(
            residues((10, 3, ((0, 1, 0, 99, 5), (1, 2, 0, 9, None), (2, 0, 0, 99, 2), (1, 0, 0, 99, 3)))),
            (5, 2, 2, 3))

    def test_bounds(self):
        self.assertEqual(
            bounds((10, 3, ((0, 1, 0, 99, 5), (1, 2, 0, 9, None), (2, 0, 0, 99, 2), (1, 0, 0, 99, 3)))),
            ((5, 95), (2, 2), (2, 92), (3, 93)))

    def test_excess(self):
        self.assertEqual(
            excess((10, 4, ((0, 1, 0, 99, 5), (1, 2, 0, 9, None), (2, 3, 8, 17, None), (3, 0, 0, 99, 5))), (0, 1, 3)),
            10)


class Flows(unittest.TestCase):
    def test_check_flow(self):
        with self.assertRaises(InvalidFlow) as caught:
            check_flow((10, 3, ((0, 1, 0, 99, 5), (1, 2, 0, 9, None), (2, 0, 0, 99, 2), (1, 0, 0, 99, 3))),
                       (15, 2, 2, 3))
        self.assertEqual((caught.exception.part, caught.exception.number), ("place", 0))

    def test_is_flow(self):
        self.assertIs(
            is_flow((10, 3, ((0, 1, 0, 99, 5), (1, 2, 0, 9, None), (2, 0, 0, 99, 2), (1, 0, 0, 99, 3))),
                    (15, 2, 2, 13)),
            True)


class Decisions(unittest.TestCase):
    def test_decide(self):
        self.assertEqual(decide((10, 2, ((0, 1, 12, 18, 5), (1, 0, 0, 99, 5)))), ("flow", (15, 15)))
        self.assertEqual(decide((10, 2, ((0, 1, 16, 18, 5), (1, 0, 0, 99, 5)))), ("pipe", 0))

    def test_check_decision(self):
        self.assertEqual(
            check_decision((10, 3, ((0, 1, 0, 99, 5), (1, 2, 0, 9, None), (2, 0, 0, 99, 2), (1, 0, 0, 99, 4))),
                           ("sum", (1, 2))),
            "sum")
        with self.assertRaises(InvalidAnswer) as caught:
            check_decision((10, 4, ((0, 1, 0, 99, 5), (1, 2, 0, 9, None), (2, 3, 8, 17, None), (3, 0, 0, 99, 5))),
                           ("places", (2,)))
        self.assertEqual(caught.exception.part, "places")


class Ranges(unittest.TestCase):
    def test_greatest_count(self):
        self.assertEqual(greatest_count((10, 2, ((0, 1, 0, 99, 5), (1, 0, 0, 40, 5))), 0)[0], 35)

    def test_least_count(self):
        self.assertEqual(least_count((10, 2, ((0, 1, 0, 99, 5), (1, 0, 20, 40, 5))), 0)[0], 25)

    def test_ranges(self):
        self.assertEqual(
            ranges((10, 3, ((0, 1, 0, 99, 5), (1, 2, 0, 9, None), (2, 0, 0, 99, 2), (1, 0, 0, 99, 3)))),
            ((5, 95), (2, 2), (2, 2), (3, 93)))

    def test_check_greatest(self):
        self.assertEqual(check_greatest((10, 2, ((0, 1, 0, 99, 5), (1, 0, 0, 40, 5))), 0, (35, (35, 35), (1,))), 35)


class Variants(unittest.TestCase):
    def test_reverse_pipes(self):
        self.assertEqual(reverse_pipes((10, 2, ((0, 1, 0, 9, 5),))), (10, 2, ((1, 0, 0, 9, 5),)))

    def test_renumber_places(self):
        self.assertEqual(renumber_places((10, 3, ((0, 1, 0, 9, 5),)), (2, 0, 1)), (10, 3, ((2, 0, 0, 9, 5),)))

    def test_add_networks(self):
        self.assertEqual(
            add_networks((10, 2, ((0, 1, 0, 9, 5),)), (10, 2, ((0, 1, 7, 20, 8),))),
            (10, 2, ((0, 1, 7, 29, 3),)))


class Cheapest(unittest.TestCase):
    def test_cheapest_flow(self):
        self.assertEqual(
            cheapest_flow((10, 3, ((0, 1, 0, 99, 5), (1, 2, 0, 9, None), (2, 0, 0, 99, 2), (1, 0, 0, 99, 3))),
                          (1, 0, 0, 1))[:2],
            (8, (5, 2, 2, 3)))

    def test_check_cheapest(self):
        self.assertEqual(
            check_cheapest((10, 3, ((0, 1, 0, 99, 5), (1, 2, 0, 9, None), (2, 0, 0, 99, 2), (1, 0, 0, 99, 3))),
                           (1, 0, 0, 1), (8, (5, 2, 2, 3), (0, 0, 0))),
            8)


class Keys(unittest.TestCase):
    def test_loose_pipes(self):
        self.assertEqual(
            loose_pipes((10, 3, ((0, 1, 0, 99, 5), (1, 2, 0, 9, None), (2, 0, 0, 99, 2), (1, 0, 0, 99, 3)))),
            (0, 3))

    def test_is_key(self):
        self.assertEqual(
            (is_key((10, 3, ((0, 1, 0, 99, 5), (1, 2, 0, 9, None), (2, 0, 0, 99, 2), (1, 0, 0, 99, 3))), (0,)),
             is_key((10, 3, ((0, 1, 0, 99, 5), (1, 2, 0, 9, None), (2, 0, 0, 99, 2), (1, 0, 0, 99, 3))), ())),
            (True, False))

    def test_flow_by_key(self):
        self.assertEqual(
            flow_by_key((10, 3, ((0, 1, 0, 99, 5), (1, 2, 0, 9, None), (2, 0, 0, 99, 2), (1, 0, 0, 99, 3))),
                        ((0, 15),)),
            (15, 2, 2, 13))

    def test_cheapest_key(self):
        self.assertEqual(
            cheapest_key((10, 3, ((0, 1, 0, 99, 5), (1, 2, 0, 9, None), (2, 0, 0, 99, 2), (1, 0, 0, 99, 3))),
                         (5, 1, 1, 2)),
            (2, (3,)))

    def test_check_cheapest_key(self):
        with self.assertRaises(InvalidAnswer) as caught:
            check_cheapest_key((10, 3, ((0, 1, 0, 99, 5), (1, 2, 0, 9, None), (2, 0, 0, 99, 2), (1, 0, 0, 99, 3))),
                               (5, 1, 1, 2), (5, (0,)))
        self.assertEqual(caught.exception.part, "cost")


class Corrections(unittest.TestCase):
    def test_corrections(self):
        self.assertEqual(
            corrections((10, 3, ((0, 1, 0, 99, 5), (1, 2, 0, 9, None), (2, 0, 0, 99, 2), (1, 0, 0, 99, 4)))),
            ((0, 6), (2, 1), (3, 3)))


class Listing(unittest.TestCase):
    def test_list_flows(self):
        self.assertEqual(
            list_flows((10, 2, ((0, 1, 0, 25, 5), (1, 0, 0, 99, 5)))),
            [(5, 5), (15, 15), (25, 25)])

    def test_count_flows(self):
        self.assertEqual(count_flows((10, 2, ((0, 1, 0, 25, 5), (1, 0, 0, 99, 5)))), 3)

    def test_flow_by_rank(self):
        self.assertEqual(flow_by_rank((10, 2, ((0, 1, 0, 25, 5), (1, 0, 0, 99, 5))), 1), (15, 15))

    def test_rank_of_flow(self):
        self.assertEqual(rank_of_flow((10, 2, ((0, 1, 0, 25, 5), (1, 0, 0, 99, 5))), (25, 25)), 2)


class Rounds(unittest.TestCase):
    def test_rounds_network(self):
        self.assertEqual(
            rounds_network((10, 2, ((0, 1, 0, 20), (1, 0, 0, 20)), ((1, 9),)), ((5, 3), (4, 9)), ((0,), (None,))),
            (10, 3, ((0, 1, 0, 20, 5), (1, 0, 0, 20, 3), (0, 2, 0, 20, 4), (2, 0, 0, 20, 9), (0, 1, 0, 0, None),
                     (1, 2, 0, 9, None), (2, 0, 0, 9, None))))

    def test_decide_rounds(self):
        self.assertEqual(
            decide_rounds((10, 2, ((0, 1, 0, 20), (1, 0, 0, 20)), ((1, 9),)), ((5, 3), (4, 9)), ((0,), (None,)))[2],
            ((0, 2, 7),))


class Records(unittest.TestCase):
    def test_record(self):
        record = Record((10, 3, ((0, 1, 0, 99, 5), (1, 2, 0, 9, None), (2, 0, 0, 99, 2), (1, 0, 0, 99, 3))))
        record.read(3, 4)
        self.assertEqual(record.decide()[0], "sum")

    def test_record_text(self):
        self.assertEqual(
            record_text(read_record("network 10 2\npipe 0 1 0 99 5\npipe 1 0 0 40 -")),
            "network 10 2\npipe 0 1 0 99 5\npipe 1 0 0 40 -")

    def test_console(self):
        self.assertEqual(Console().run("decide"), "no record")


if __name__ == "__main__":
    unittest.main()
