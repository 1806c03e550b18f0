"""get_result and total_value: the returned allocation, its order, payments and its value."""

import unittest

from tests.helpers import RESULT, TOTAL, after_closing


class ResultTest(unittest.TestCase):

    def expect(self, reserves, bids, results, total):
        """results has a lot and a payment for each of the first bidders; the others get none."""
        bids = list(bids) + [None] * (5 - len(bids))
        fields = [number for pair in results for number in pair] + [-1, 0] * (5 - len(results))
        self.assertEqual(after_closing(reserves, bids, RESULT, TOTAL), [[0] + fields, [0, total]])


class OrdinaryResultTest(ResultTest):

    def test_one_lot_goes_to_the_highest_bid_for_the_second_highest(self):
        self.expect([10], [[30], [50], [40], [20], [11]], [(-1, 0), (0, 40)], 50)

    def test_one_lot_with_one_bid_costs_the_reserve(self):
        self.expect([10], [[11]], [(0, 10)], 11)

    def test_four_lots(self):
        bids = [[50, 10, 10, 10], [10, 40, 10, 10], [10, 10, 30, 10], [10, 10, 10, 20], [25, 15, 12, 11]]
        self.expect([1, 2, 3, 4], bids, [(0, 25), (1, 15), (2, 12), (3, 11)], 140)

    def test_the_best_bid_for_each_lot_alone_is_not_the_best_allocation(self):
        self.expect([0, 0], [[60, 59], [58, 0]], [(1, 0), (0, 1)], 117)

    def test_a_payment_that_depends_on_a_chain_of_bidders(self):
        # A second lot 0 is worth 11: bidder 0 moves to it, and bidder 2 takes lot 1.
        self.expect([0, 0], [[20, 18], [15, 0], [0, 9]], [(1, 9), (0, 11)], 33)
        self.expect([0, 0, 0], [[9, 8, 0], [0, 9, 8], [8, 0, 5], [0, 0, 6]],
                    [(0, 8), (1, 7), (-1, 0), (2, 6)], 24)


class ReserveTest(ResultTest):

    def test_no_bids_at_all(self):
        self.expect([7], [], [], 7)
        self.expect([1, 2, 3, 60], [], [], 66)

    def test_no_bids_and_reserves_of_zero_leave_the_lots_unsold(self):
        self.expect([0, 0, 0, 0], [], [], 0)

    def test_bids_below_the_reserve_leave_the_lot_unsold(self):
        self.expect([10], [[9], [0]], [], 10)
        self.expect([10, 5], [[9, 4], [8, 6]], [(-1, 0), (1, 5)], 16)

    def test_a_bid_that_is_the_reserve_gets_the_lot(self):
        self.expect([10], [[10]], [(0, 10)], 10)
        self.expect([60], [None, None, [60]], [(-1, 0), (-1, 0), (0, 60)], 60)
        self.expect([0], [None, [0]], [(-1, 0), (0, 0)], 0)

    def test_the_reserve_counts_in_the_choice_of_the_lot(self):
        # 20 for lot 0 is more than 15 for lot 1, but the seller loses more.
        self.expect([12, 1], [[20, 15]], [(1, 1)], 27)

    def test_more_lots_than_bids(self):
        self.expect([3, 3, 3], [None, [4, 9, 5]], [(-1, 0), (1, 3)], 15)

    def test_largest_numbers(self):
        self.expect([60] * 4, [[60] * 4] * 5, [(0, 60), (1, 60), (2, 60), (3, 60)], 240)
        self.expect([0] * 4, [[60] * 4] * 5, [(0, 60), (1, 60), (2, 60), (3, 60)], 240)

    def test_largest_and_smallest_bid_for_one_lot(self):
        self.expect([0], [[0], [60]], [(-1, 0), (0, 0)], 60)


class TieTest(ResultTest):

    def test_the_first_bidder_gets_the_one_lot(self):
        self.expect([3], [[8]] * 5, [(0, 8)], 8)
        self.expect([3], [None, [8], None, [8]], [(-1, 0), (0, 8)], 8)

    def test_a_smaller_lot_comes_first(self):
        self.expect([1, 1], [[5, 5]], [(0, 1)], 6)
        self.expect([1, 1, 1], [[5, 5, 5], [5, 5, 5]], [(0, 1), (1, 1)], 11)
        self.expect([1, 1, 1, 1], [[4, 5, 5, 5]], [(1, 1)], 8)

    def test_none_comes_last(self):
        self.expect([0, 0, 0, 0], [[0] * 4] * 5, [(0, 0), (1, 0), (2, 0), (3, 0)], 0)
        # None for bidder 0 would let bidder 1 have a smaller lot.
        self.expect([9, 2], [[0, 2], [0, 2]], [(1, 2)], 11)

    def test_bidders_in_a_row_with_one_lot_each_in_a_circle(self):
        self.expect([0, 0, 0], [[6, 6, 0], [6, 0, 6], [0, 6, 6]], [(0, 0), (2, 0), (1, 0)], 18)

    def test_the_first_choice_gives_way_to_a_larger_value(self):
        # Bidder 0 is as well off with lot 0, but then bidder 1 would go without.
        self.expect([0, 0], [[6, 6], [6, 0]], [(1, 0), (0, 0)], 12)

    def test_the_first_bidder_decides_not_the_first_lot(self):
        # Both (1, 0, none) and (none, 0, 1) are worth 12; bidder 0 with a lot comes first.
        self.expect([0, 0], [[0, 6], [6, 0], [0, 6]], [(1, 6), (0, 0)], 12)

    def test_a_tie_between_a_sale_and_the_reserve_far_behind(self):
        self.expect([4, 4], [[9, 9], [4, 4], [4, 4], [4, 4], [9, 9]],
                    [(0, 4), (-1, 0), (-1, 0), (-1, 0), (1, 4)], 18)


class AbsentBidderTest(ResultTest):

    def test_only_the_last_bidder_bids(self):
        self.expect([1, 1], [None, None, None, None, [5, 9]], [(-1, 0)] * 4 + [(1, 1)], 10)

    def test_an_absent_bidder_raises_no_price(self):
        self.expect([0], [None, [9], None], [(-1, 0), (0, 0)], 9)


if __name__ == "__main__":
    unittest.main()
