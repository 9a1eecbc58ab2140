"""The examples of the document, as they stand there."""

import unittest

from wrapcount.decisions import check_decision, decide
from wrapcount.errors import InvalidAnswer, InvalidFlow, InvalidNetwork
from wrapcount.flows import check_flow, is_flow
from wrapcount.networks import check_network, entering, groups, is_network, is_open, leaving, open_pipes
from wrapcount.ranges import check_greatest, greatest_count, least_count, ranges
from wrapcount.residues import bounds, excess, group_sums, residues
from wrapcount.variants import add_networks, renumber_places, reverse_pipes


class Networks(unittest.TestCase):
    def test_check_network(self):
        with self.assertRaises(InvalidNetwork) as caught:
            check_network((10, 2, ((0, 1, 0, 9, None), (1, 0, 0, 9, None))))
        self.assertEqual(caught.exception.part, "ring")

    def test_is_network(self):
        self.assertIs(is_network((10, 2, ((0, 1, 0, 9, 10),))), False)

    def test_is_open(self):
        self.assertIs(
            is_open((10, 3, ((0, 1, 0, 99, 5), (1, 2, 0, 9, None), (2, 0, 0, 99, 2), (1, 0, 0, 99, 3))), 1),
            True)

    def test_open_pipes(self):
        self.assertEqual(
            open_pipes((10, 3, ((0, 1, 0, 99, 5), (1, 2, 0, 9, None), (2, 0, 0, 99, 2), (1, 0, 0, 99, 3)))),
            (1,))

    def test_groups(self):
        self.assertEqual(
            groups((10, 3, ((0, 1, 0, 99, 5), (1, 2, 0, 9, None), (2, 0, 0, 99, 2), (1, 0, 0, 99, 3)))),
            ((0,), (1, 2)))

    def test_entering(self):
        self.assertEqual(
            entering((10, 3, ((0, 1, 0, 99, 5), (1, 2, 0, 9, None), (2, 0, 0, 99, 2), (1, 0, 0, 99, 3))), (1, 2)),
            (0,))

    def test_leaving(self):
        self.assertEqual(
            leaving((10, 3, ((0, 1, 0, 99, 5), (1, 2, 0, 9, None), (2, 0, 0, 99, 2), (1, 0, 0, 99, 3))), (1, 2)),
            (2, 3))


class Residues(unittest.TestCase):
    def test_group_sums(self):
        self.assertEqual(
            group_sums((10, 3, ((0, 1, 0, 99, 5), (1, 2, 0, 9, None), (2, 0, 0, 99, 2), (1, 0, 0, 99, 4)))),
            (((0,), 1), ((1, 2), 9)))

    def test_residues(self):
        self.assertEqual(
            residues((10, 3, ((0, 1, 0, 99, 5), (1, 2, 0, 9, None), (2, 0, 0, 99, 2), (1, 0, 0, 99, 3)))),
            (5, 2, 2, 3))

    def test_bounds(self):
        self.assertEqual(
            bounds((10, 3, ((0, 1, 0, 99, 5), (1, 2, 0, 9, None), (2, 0, 0, 99, 2), (1, 0, 0, 99, 3)))),
            ((5, 95), (2, 2), (2, 92), (3, 93)))

    def test_excess(self):
        self.assertEqual(
            excess((10, 4, ((0, 1, 0, 99, 5), (1, 2, 0, 9, None), (2, 3, 8, 17, None), (3, 0, 0, 99, 5))), (0, 1, 3)),
            10)


class Flows(unittest.TestCase):
    def test_check_flow(self):
        with self.assertRaises(InvalidFlow) as caught:
            check_flow((10, 3, ((0, 1, 0, 99, 5), (1, 2, 0, 9, None), (2, 0, 0, 99, 2), (1, 0, 0, 99, 3))),
                       (15, 2, 2, 3))
        self.assertEqual((caught.exception.part, caught.exception.number), ("place", 0))

    def test_is_flow(self):
        self.assertIs(
            is_flow((10, 3, ((0, 1, 0, 99, 5), (1, 2, 0, 9, None), (2, 0, 0, 99, 2), (1, 0, 0, 99, 3))),
                    (15, 2, 2, 13)),
            True)


class Decisions(unittest.TestCase):
    def test_decide(self):
        self.assertEqual(decide((10, 2, ((0, 1, 12, 18, 5), (1, 0, 0, 99, 5)))), ("flow", (15, 15)))
        self.assertEqual(decide((10, 2, ((0, 1, 16, 18, 5), (1, 0, 0, 99, 5)))), ("pipe", 0))

    def test_check_decision(self):
        self.assertEqual(
            check_decision((10, 3, ((0, 1, 0, 99, 5), (1, 2, 0, 9, None), (2, 0, 0, 99, 2), (1, 0, 0, 99, 4))),
                           ("sum", (1, 2))),
            "sum")
        with self.assertRaises(InvalidAnswer) as caught:
            check_decision((10, 4, ((0, 1, 0, 99, 5), (1, 2, 0, 9, None), (2, 3, 8, 17, None), (3, 0, 0, 99, 5))),
                           ("places", (2,)))
        self.assertEqual(caught.exception.part, "places")


class Ranges(unittest.TestCase):
    def test_greatest_count(self):
        self.assertEqual(greatest_count((10, 2, ((0, 1, 0, 99, 5), (1, 0, 0, 40, 5))), 0)[0], 35)

    def test_least_count(self):
        self.assertEqual(least_count((10, 2, ((0, 1, 0, 99, 5), (1, 0, 20, 40, 5))), 0)[0], 25)

    def test_ranges(self):
        self.assertEqual(
            ranges((10, 3, ((0, 1, 0, 99, 5), (1, 2, 0, 9, None), (2, 0, 0, 99, 2), (1, 0, 0, 99, 3)))),
            ((5, 95), (2, 2), (2, 2), (3, 93)))

    def test_check_greatest(self):
        self.assertEqual(check_greatest((10, 2, ((0, 1, 0, 99, 5), (1, 0, 0, 40, 5))), 0, (35, (35, 35), (1,))), 35)


class Variants(unittest.TestCase):
    def test_reverse_pipes(self):
        self.assertEqual(reverse_pipes((10, 2, ((0, 1, 0, 9, 5),))), (10, 2, ((1, 0, 0, 9, 5),)))

    def test_renumber_places(self):
        self.assertEqual(renumber_places((10, 3, ((0, 1, 0, 9, 5),)), (2, 0, 1)), (10, 3, ((2, 0, 0, 9, 5),)))

    def test_add_networks(self):
        self.assertEqual(
            add_networks((10, 2, ((0, 1, 0, 9, 5),)), (10, 2, ((0, 1, 7, 20, 8),))),
            (10, 2, ((0, 1, 7, 29, 3),)))


if __name__ == "__main__":
    unittest.main()
