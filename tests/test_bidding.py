"""new_auction, submit_bid and close_auction where they succeed."""

import unittest

from tests.helpers import CLOSE, MAXIMUM, MINIMUM, RESULT, TOTAL, ask, auction, check, demand, last, new, submit


class NewAuctionTest(unittest.TestCase):

    def test_one_to_four_lots(self):
        for lots in range(1, 5):
            with self.subTest(lots=lots):
                self.assertEqual(ask(new([7] * lots)), [[0]])
                self.assertEqual(last(new([7] * lots), CLOSE, MINIMUM), [0, lots] + [7] * lots)

    def test_smallest_and_largest_reserve(self):
        self.assertEqual(ask(new([0, 60, 0, 60]), CLOSE, TOTAL), [[0], [0, 0], [0, 120]])

    def test_starts_without_bids_and_not_closed(self):
        self.assertEqual(ask(new([1]), RESULT, CLOSE), [[0], [-5], [0, 0]])

    def test_begins_anew_while_bids_are_taken(self):
        rows = ask(new([1]), submit(2, [9]), new([5, 6]), submit(2, [4, 8]), CLOSE, RESULT, TOTAL)
        self.assertEqual(rows[2:], [[0], [0, 0], [0, 1], [0, -1, 0, -1, 0, 1, 6, -1, 0, -1, 0], [0, 13]])

    def test_begins_anew_after_closing(self):
        before = auction([3, 4], [[9, 9], [8, 8], [7, 7], [6, 6], [5, 5]])
        rows = ask(*before, new([2]), TOTAL, submit(0, [8]), CLOSE, TOTAL, MAXIMUM)
        self.assertEqual(rows[len(before):], [[0], [-5], [0, 0], [0, 1], [0, 8], [0, 1, 8]])

    def test_the_same_reserves_again_begin_anew_too(self):
        rows = ask(new([2]), submit(1, [8]), CLOSE, new([2]), submit(1, [9]), CLOSE, CLOSE)
        self.assertEqual(rows, [[0], [0, 0], [0, 1], [0], [0, 0], [0, 1], [-6]])


class SubmitBidTest(unittest.TestCase):

    def test_each_bidder_for_each_number_of_lots(self):
        for lots in range(1, 5):
            for i in range(5):
                with self.subTest(lots=lots, i=i):
                    rows = ask(new([0] * lots), submit(i, [60] * lots), submit(i, [0] * lots), CLOSE)
                    self.assertEqual(rows, [[0], [0, 0], [0, 1], [0, 1]])

    def test_replaced_is_told_for_each_bidder_alone(self):
        calls = [new([0])] + [submit(i, [i]) for i in (0, 4, 2, 4, 0, 0, 3, 1, 2)]
        self.assertEqual([row[1] for row in ask(*calls)[1:]], [0, 0, 0, 1, 1, 1, 0, 0, 1])

    def test_the_last_bids_count(self):
        rows = ask(new([2, 3]), submit(0, [60, 60]), submit(0, [0, 9]), submit(0, [4, 5]), CLOSE, RESULT, TOTAL)
        self.assertEqual(rows[-2:], [[0, 0, 2] + [-1, 0] * 4, [0, 7]])

    def test_replacing_by_lower_bids_counts(self):
        rows = ask(new([10]), submit(0, [30]), submit(1, [20]), submit(0, [5]), CLOSE, RESULT)
        self.assertEqual(rows[-1], [0, -1, 0, 0, 10, -1, 0, -1, 0, -1, 0])

    def test_replacing_by_the_same_bids_is_replacing(self):
        self.assertEqual(last(new([0]), submit(0, [5]), submit(0, [5])), [0, 1])

    def test_bids_of_zero_are_submitted_bids(self):
        self.assertEqual(ask(new([1]), submit(3, [0]), submit(3, [0]), CLOSE)[1:], [[0, 0], [0, 1], [0, 1]])

    def test_until_closing_no_answer_depends_on_the_bids(self):
        def told(number):
            return ask(new([9, 9]), submit(1, [number, 3]), MINIMUM, RESULT, submit(1, [3, number]), TOTAL,
                       submit(0, [number] * 2), check([number] * 2), demand(1, [number] * 2), MAXIMUM,
                       submit(5, [1, 1]), submit(2, [number]), CLOSE)

        for number in range(61):
            self.assertEqual(told(number), told(0))


class CloseAuctionTest(unittest.TestCase):

    def test_counts_bidders_not_bids(self):
        for bidders in ([], [0], [4], [1, 3], [2, 0, 4], [0, 1, 2, 3], [4, 3, 2, 1, 0]):
            with self.subTest(bidders=bidders):
                calls = [submit(i, [5, 5]) for i in bidders + bidders]
                self.assertEqual(last(new([1, 1]), *calls, CLOSE), [0, len(bidders)])


if __name__ == "__main__":
    unittest.main()
