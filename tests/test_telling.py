"""list_submitted, list_bids and summary where they succeed."""

import unittest

from tests.helpers import BIDS, CLOSE, SUBMITTED, SUMMARY, after_closing, ask, auction, last, new, submit

NOBODY = [0, 0, 0, 0, 0, 0]


class ListSubmittedTest(unittest.TestCase):

    def test_before_and_after_closing(self):
        rows = ask(new([1, 2]), SUBMITTED, submit(3, [5, 5]), SUBMITTED, submit(0, [0, 0]), SUBMITTED,
                   CLOSE, SUBMITTED)
        self.assertEqual(rows[1::2], [NOBODY, [0, 0, 0, 0, 1, 0], [0, 1, 0, 0, 1, 0], [0, 1, 0, 0, 1, 0]])

    def test_each_bidder(self):
        for i in range(5):
            self.assertEqual(last(new([1]), submit(i, [0]), SUBMITTED), [0] + [int(i == k) for k in range(5)])

    def test_nobody_and_everybody(self):
        for lots in range(1, 5):
            nobody, everybody = [None] * 5, [[60] * lots] * 5
            self.assertEqual(after_closing([3] * lots, nobody, SUBMITTED), [NOBODY])
            self.assertEqual(after_closing([3] * lots, everybody, SUBMITTED), [[0, 1, 1, 1, 1, 1]])

    def test_replaced_bids_are_submitted_bids(self):
        self.assertEqual(last(new([1]), submit(2, [5]), submit(2, [6]), submit(2, [7]), SUBMITTED), [0, 0, 0, 1, 0, 0])

    def test_refused_bids_are_not_submitted(self):
        rows = ask(new([1]), submit(0, [61]), submit(1, []), submit(2, [1, 1]), SUBMITTED, CLOSE, submit(3, [1]),
                   SUBMITTED)
        self.assertEqual(rows[4::3], [NOBODY, NOBODY])

    def test_a_new_auction_has_no_bids(self):
        self.assertEqual(last(new([1]), submit(2, [5]), new([1]), SUBMITTED), NOBODY)
        self.assertEqual(last(*auction([1], [[5]] * 5), new([1]), SUBMITTED), NOBODY)


class ListBidsTest(unittest.TestCase):

    def test_bidder_by_bidder_and_lot_by_lot(self):
        bids = [[1, 2, 3], [4, 5, 6], [7, 8, 9], [10, 11, 12], [13, 14, 15]]
        self.assertEqual(after_closing([0, 0, 0], bids, BIDS), [[0] + list(range(1, 16))])

    def test_bidders_without_bids(self):
        self.assertEqual(after_closing([0], [None] * 5, BIDS), [[0] + [-1] * 5])
        self.assertEqual(after_closing([9] * 4, [None] * 5, BIDS), [[0] + [-1] * 20])
        self.assertEqual(after_closing([7, 7], [None, [3, 0], None, None, [60, 8]], BIDS),
                         [[0, -1, -1, 3, 0, -1, -1, -1, -1, 60, 8]])

    def test_bids_of_zero_are_not_missing_bids(self):
        self.assertEqual(after_closing([7], [[0], None, [0]], BIDS), [[0, 0, -1, 0, -1, -1]])

    def test_bids_below_the_reserves_and_of_losers_are_told_too(self):
        self.assertEqual(after_closing([50], [[49], [60], [59]], BIDS), [[0, 49, 60, 59, -1, -1]])

    def test_the_last_bids_of_each_bidder(self):
        rows = ask(new([1, 2]), submit(1, [3, 4]), submit(4, [9, 9]), submit(1, [6, 5]), CLOSE, BIDS)
        self.assertEqual(rows[-1], [0, -1, -1, 6, 5, -1, -1, -1, -1, 9, 9])

    def test_the_bids_of_the_auction_that_is_there_now(self):
        rows = ask(new([1, 2]), submit(1, [3, 4]), CLOSE, BIDS, new([5]), submit(0, [8]), CLOSE, BIDS)
        self.assertEqual(rows[3], [0, -1, -1, 3, 4, -1, -1, -1, -1, -1, -1])
        self.assertEqual(rows[-1], [0, 8, -1, -1, -1, -1])


class SummaryTest(unittest.TestCase):

    def test_before_and_after_closing(self):
        rows = ask(new([4, 0, 60]), SUMMARY, submit(3, [5, 5, 5]), SUMMARY, CLOSE, SUMMARY, SUMMARY)
        self.assertEqual(rows[1::2], [[0, 3, 4, 0, 60, 0]] * 2 + [[0, 3, 4, 0, 60, 1]])
        self.assertEqual(rows[-1], [0, 3, 4, 0, 60, 1])

    def test_one_to_four_lots(self):
        for lots in range(1, 5):
            reserves = list(range(10, 10 + lots))
            self.assertEqual(ask(new(reserves), SUMMARY, CLOSE, SUMMARY)[1::2],
                             [[0, lots] + reserves + [0], [0, lots] + reserves + [1]])

    def test_the_auction_that_is_there_now(self):
        rows = ask(new([4, 5]), CLOSE, new([6]), SUMMARY, new([7, 8, 9]), SUMMARY, CLOSE, SUMMARY)
        self.assertEqual(rows[3::2], [[0, 1, 6, 0], [0, 3, 7, 8, 9, 0], [0, 3, 7, 8, 9, 1]])

    def test_a_new_auction_that_fails_does_not_show(self):
        rows = ask(new([4, 5]), new([61]), SUMMARY, new([]), CLOSE, new([1] * 5), SUMMARY)
        self.assertEqual(rows[2::4], [[0, 2, 4, 5, 0], [0, 2, 4, 5, 1]])


if __name__ == "__main__":
    unittest.main()
