"""The examples of the document, as they stand there."""

import unittest

from wrapcount.errors import InvalidNetwork
from wrapcount.networks import check_network, entering, groups, is_network, is_open, leaving, open_pipes
from wrapcount.residues import bounds, excess, group_sums, residues


class Networks(unittest.TestCase):
    def test_check_network(self):
        with self.assertRaises(InvalidNetwork) as caught:
            check_network((10, 2, ((0, 1, 0, 9, None), (1, 0, 0, 9, None))))
        self.assertEqual(caught.exception.part, "ring")

    def test_is_network(self):
        self.assertIs(is_network((10, 2, ((0, 1, 0, 9, 10),))), False)

    def test_is_open(self):
        self.assertIs(
            is_open((10, 3, ((0, 1, 0, 99, 5), (1, 2, 0, 9, None), (2, 0, 0, 99, 2), (1, 0, 0, 99, 3))), 1),
            True)

    def test_open_pipes(self):
        self.assertEqual(
            open_pipes((10, 3, ((0, 1, 0, 99, 5), (1, 2, 0, 9, None), (2, 0, 0, 99, 2), (1, 0, 0, 99, 3)))),
            (1,))

    def test_groups(self):
        self.assertEqual(
            groups((10, 3, ((0, 1, 0, 99, 5), (1, 2, 0, 9, None), (2, 0, 0, 99, 2), (1, 0, 0, 99, 3)))),
            ((0,), (1, 2)))

    def test_entering(self):
        self.assertEqual(
            entering((10, 3, ((0, 1, 0, 99, 5), (1, 2, 0, 9, None), (2, 0, 0, 99, 2), (1, 0, 0, 99, 3))), (1, 2)),
            (0,))

    def test_leaving(self):
        self.assertEqual(
            leaving((10, 3, ((0, 1, 0, 99, 5), (1, 2, 0, 9, None), (2, 0, 0, 99, 2), (1, 0, 0, 99, 3))), (1, 2)),
            (2, 3))


class Residues(unittest.TestCase):
    def test_group_sums(self):
        self.assertEqual(
            group_sums((10, 3, ((0, 1, 0, 99, 5), (1, 2, 0, 9, None), (2, 0, 0, 99, 2), (1, 0, 0, 99, 4)))),
            (((0,), 1), ((1, 2), 9)))

    def test_residues(self):
        self.assertEqual(
            residues((10, 3, ((0, 1, 0, 99, 5), (1, 2, 0, 9, None), (2, 0, 0, 99, 2), (1, 0, 0, 99, 3)))),
            (5, 2, 2, 3))

    def test_bounds(self):
        self.assertEqual(
            bounds((10, 3, ((0, 1, 0, 99, 5), (1, 2, 0, 9, None), (2, 0, 0, 99, 2), (1, 0, 0, 99, 3)))),
            ((5, 95), (2, 2), (2, 92), (3, 93)))

    def test_excess(self):
        self.assertEqual(
            excess((10, 4, ((0, 1, 0, 99, 5), (1, 2, 0, 9, None), (2, 3, 8, 17, None), (3, 0, 0, 99, 5))), (0, 1, 3)),
            10)


if __name__ == "__main__":
    unittest.main()
