"""The rows of the document's example that the calls 0 to 8 reach."""

import unittest

from sealedlots.auction import answers
from tests.helpers import CLOSE, MAXIMUM, MINIMUM, RESULT, TOTAL, check, demand, flat, new, split, submit

ROWS = [
    (RESULT, [-2]),
    (new([2, 0]), [0]),
    (submit(0, [10, 6]), [0, 0]),
    (RESULT, [-5]),
    (submit(1, [9, 1]), [0, 0]),
    (submit(0, [10, 7]), [0, 1]),
    (CLOSE, [0, 2]),
    (RESULT, [0, 1, 0, 0, 3, -1, 0, -1, 0, -1, 0]),
    (MINIMUM, [0, 2, 3, 0]),
    (MAXIMUM, [0, 2, 9, 6]),
    (TOTAL, [0, 16]),
    (check([3, 0]), [0, 1]),
    (check([2, 0]), [0, 0, 2, 0]),
    (demand(0, [3, 0]), [0, 2, 0, 1]),
    (CLOSE, [-6]),
]


class ExampleTest(unittest.TestCase):

    def test_every_row(self):
        answered = split(answers(flat(call for call, _ in ROWS)))
        self.assertEqual(answered, [expected for _, expected in ROWS])

    def test_the_numbers_as_they_are_handed_in_and_given_back(self):
        calls = [0, 2, 2, 0, 1, 0, 2, 10, 7, 1, 1, 2, 9, 1, 2, 3, 4, 5, 6, 7, 2, 2, 0, 8, 0, 2, 3, 0, 2]
        expected = [1, 0, 2, 0, 0, 2, 0, 0, 2, 0, 2, 11, 0, 1, 0, 0, 3, -1, 0, -1, 0, -1, 0,
                    4, 0, 2, 3, 0, 4, 0, 2, 9, 6, 2, 0, 16, 4, 0, 0, 2, 0, 4, 0, 2, 0, 1, 1, -6]
        self.assertEqual(answers(calls), expected)


if __name__ == "__main__":
    unittest.main()
