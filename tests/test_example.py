"""The document's example, row by row, as one list of calls."""

import unittest

from sealedlots.auction import answers
from tests.helpers import (
    BIDS, CLOCK, CLOSE, MAXIMUM, MINIMUM, RESULT, SUBMITTED, SUMMARY, TOTAL, check, demand, flat, hypothetical, new,
    overdemanded, split, submit, total_without, truthful, utility)

ROWS = [
    (SUBMITTED, [-2]),
    (new([2, 0]), [0]),
    (submit(0, [10, 6]), [0, 0]),
    (RESULT, [-5]),
    (submit(1, [9, 1]), [0, 0]),
    (submit(0, [10, 7]), [0, 1]),
    (SUBMITTED, [0, 1, 1, 0, 0, 0]),
    (CLOSE, [0, 2]),
    (RESULT, [0, 1, 0, 0, 3, -1, 0, -1, 0, -1, 0]),
    (MINIMUM, [0, 2, 3, 0]),
    (MAXIMUM, [0, 2, 9, 6]),
    (TOTAL, [0, 16]),
    (check([3, 0]), [0, 1]),
    (check([2, 0]), [0, 0, 2, 0]),
    (demand(0, [3, 0]), [0, 2, 0, 1]),
    (overdemanded([2, 0]), [0, 1, 1]),
    (CLOCK, [0, 1, 1, 2, 3, 0]),
    (hypothetical(1, [11, 1]), [0, 0, 3]),
    (utility(0, [10, 7]), [0, 7]),
    (truthful(1, [9, 1]), [0, 6]),
    (total_without(0), [0, 9]),
    (BIDS, [0, 10, 7, 9, 1, -1, -1, -1, -1, -1, -1]),
    (SUMMARY, [0, 2, 2, 0, 1]),
    (CLOSE, [-6]),
]


class ExampleTest(unittest.TestCase):

    def test_every_row(self):
        answered = split(answers(flat(call for call, _ in ROWS)))
        self.assertEqual(answered, [expected for _, expected in ROWS])

    def test_the_numbers_as_they_are_handed_in_and_given_back(self):
        calls = [15, 0, 2, 2, 0, 1, 0, 2, 10, 6, 3, 1, 1, 2, 9, 1, 1, 0, 2, 10, 7, 15, 2,
                 3, 4, 5, 6, 7, 2, 3, 0, 7, 2, 2, 0, 8, 0, 2, 3, 0,
                 9, 2, 2, 0, 10, 11, 1, 2, 11, 1, 12, 0, 2, 10, 7, 13, 1, 2, 9, 1, 14, 0, 16, 17, 2]
        expected = [1, -2, 1, 0, 2, 0, 0, 1, -5, 2, 0, 0, 2, 0, 1, 6, 0, 1, 1, 0, 0, 0, 2, 0, 2,
                    11, 0, 1, 0, 0, 3, -1, 0, -1, 0, -1, 0, 4, 0, 2, 3, 0, 4, 0, 2, 9, 6, 2, 0, 16,
                    2, 0, 1, 4, 0, 0, 2, 0, 4, 0, 2, 0, 1,
                    3, 0, 1, 1, 6, 0, 1, 1, 2, 3, 0, 3, 0, 0, 3, 2, 0, 7, 2, 0, 6, 2, 0, 9,
                    11, 0, 10, 7, 9, 1, -1, -1, -1, -1, -1, -1, 5, 0, 2, 2, 0, 1, 1, -6]
        self.assertEqual(answers(calls), expected)


if __name__ == "__main__":
    unittest.main()
