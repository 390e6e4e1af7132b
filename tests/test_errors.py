"""The error classes of the interface."""

import unittest

from sidering.errors import BadCells, BadClues, BadGrid, NoRing, RingError


class TestErrors(unittest.TestCase):
    def test_ring_error_stands_straight_under_value_error(self):
        self.assertEqual(RingError.__bases__, (ValueError,))
        self.assertEqual(RingError.__name__, "RingError")

    def test_the_four_stand_straight_under_ring_error(self):
        for name, kind in (("BadGrid", BadGrid), ("BadCells", BadCells), ("BadClues", BadClues), ("NoRing", NoRing)):
            with self.subTest(name):
                self.assertEqual(kind.__bases__, (RingError,))
                self.assertEqual(kind.__name__, name)
                self.assertEqual(kind.__module__, "sidering.errors")

    def test_the_four_are_unlike(self):
        self.assertEqual(len({BadGrid, BadCells, BadClues, NoRing}), 4)


if __name__ == "__main__":
    unittest.main()
