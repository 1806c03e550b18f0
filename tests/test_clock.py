"""overdemanded_set and run_clock where they succeed."""

import unittest

from tests.helpers import CLOCK, MINIMUM, after_closing, after_closing_in_parts, overdemanded, with_nobody_behind


def wanting(*lots, of):
    """A row of bids whose demand set, at prices of 0, has these lots and nothing else."""
    return [10 if lot in lots else 0 for lot in range(of)]


class OverdemandedSetTest(unittest.TestCase):

    def expect(self, bids, pairs):
        """pairs: prices, and the first overdemanded set or None."""
        # The reserves must not matter.
        for reserve in (0, 7, 60):
            reserves = [reserve] * len(pairs[0][0])
            answered = after_closing(reserves, with_nobody_behind(bids), *[overdemanded(prices) for prices, _ in pairs])
            self.assertEqual(answered, [[0, 0] if found is None else [0, 1, found] for _, found in pairs])

    def expect_at_zero(self, demanded, lots, found):
        """demanded: for each bidder the lots of the demand set."""
        self.expect([wanting(*row, of=lots) for row in demanded], [([0] * lots, found)])

    def test_one_lot(self):
        self.expect([[30], [20]], [([0], 1), ([19], 1), ([20], None), ([29], None), ([30], None), ([1000], None)])
        self.expect([[30], [20], [25]], [([20], 1), ([24], 1), ([25], None)])

    def test_one_bidder_overdemands_nothing(self):
        for lots in range(1, 5):
            self.expect([[60] * lots], [([0] * lots, None), ([59] * lots, None)])

    def test_nobody_overdemands_nothing(self):
        for lots in range(1, 5):
            self.expect([], [([0] * lots, None), ([1000] * lots, None)])

    def test_bidders_with_none_in_their_demand_set_do_not_count(self):
        self.expect([[20]] * 5, [([19], 1), ([20], None), ([21], None)])
        self.expect([[20], [21], [20]], [([19], 1), ([20], None)])
        # At 20 and 5, bidders 0 and 1 demand none too, bidder 2 none alone, and bidder 3 lot 0 alone.
        self.expect([[20, 5], [20, 0], [0, 0], [21, 0]], [([20, 5], None), ([19, 5], 1)])

    def test_bids_of_zero_at_prices_of_zero_do_not_count(self):
        self.expect([[0, 0]] * 5, [([0, 0], None)])

    def test_as_many_bidders_as_lots_are_not_too_many(self):
        self.expect_at_zero([[0], [1]], 2, None)
        self.expect_at_zero([[0, 1], [0, 1]], 2, None)
        self.expect_at_zero([[0, 1, 2, 3]] * 4, 4, None)

    def test_one_more_bidder_than_lots_is_too_many(self):
        self.expect_at_zero([[0, 1]] * 3, 2, 0b11)
        self.expect_at_zero([[0, 1, 2]] * 4, 3, 0b111)
        self.expect_at_zero([[0, 1, 2, 3]] * 5, 4, 0b1111)

    def test_each_lot_alone(self):
        for lots in range(1, 5):
            for lot in range(lots):
                self.expect_at_zero([[lot], [lot]], lots, 1 << lot)

    def test_smaller_demand_sets_count_within_a_larger_set(self):
        self.expect_at_zero([[0], [1], [0, 1]], 2, 0b11)
        self.expect_at_zero([[3], [1, 3], [1], [0]], 4, 0b1010)
        self.expect_at_zero([[0], [0, 2], [2, 3], [3]], 4, 0b1101)
        self.expect_at_zero([[0, 3], [0, 2], [0], [2, 3], [1]], 4, 0b1101)
        self.expect_at_zero([[0], [1], [2], [3], [0, 1, 2, 3]], 4, 0b1111)

    def test_larger_demand_sets_do_not_count(self):
        self.expect_at_zero([[0, 1], [0, 1], [1, 2]], 3, None)
        self.expect_at_zero([[0], [0, 1]], 2, None)

    def test_of_the_same_size_the_smallest_number_comes_first(self):
        self.expect_at_zero([[1], [1], [0], [0]], 2, 0b01)
        self.expect_at_zero([[3], [3], [1], [1]], 4, 0b0010)
        self.expect_at_zero([[3], [3], [2], [2], [0]], 4, 0b0100)
        # {0, 1} and {1, 2}, and in the other row {1, 2} and {2, 3}.
        self.expect_at_zero([[2], [1, 2], [1], [0, 1], [0]], 4, 0b0011)
        self.expect_at_zero([[3], [2, 3], [2], [1, 2], [1]], 4, 0b0110)

    def test_fewer_lots_come_ahead_of_a_smaller_number(self):
        self.expect_at_zero([[0, 1], [0, 1], [0, 1], [3], [3]], 4, 0b1000)
        self.expect_at_zero([[2], [0, 1], [0, 1], [0, 1], [2]], 3, 0b100)
        self.expect_at_zero([[0, 2], [0], [2], [3], [3]], 4, 0b1000)

    def test_prices_decide(self):
        bids = [[10, 7], [9, 1]]
        self.expect(bids, [([2, 0], 1), ([3, 0], None), ([0, 0], 1), ([3, 1], 1), ([10, 0], 2), ([0, 1000], 1)])

    def test_absent_bidders_between_the_others(self):
        self.expect([None, [9, 9], None, [9, 9], [9, 9]], [([8, 8], 3), ([8, 9], 1), ([9, 8], 2), ([9, 9], None)])


class RunClockTest(unittest.TestCase):

    def expect(self, reserves, bids, sets, prices):
        answered = after_closing(reserves, with_nobody_behind(bids), CLOCK, MINIMUM)
        listed = [len(prices)] + prices
        self.assertEqual(answered, [[0, len(sets)] + sets + listed, [0] + listed])

    def test_no_round_without_bids(self):
        for lots in range(1, 5):
            self.expect([7] * lots, [], [], [7] * lots)
            self.expect([0] * lots, [], [], [0] * lots)

    def test_no_round_with_one_bidder(self):
        self.expect([3], [[60]], [], [3])
        self.expect([1, 2, 3, 4], [None, None, [60, 60, 60, 60]], [], [1, 2, 3, 4])

    def test_no_round_where_bids_do_not_exceed_the_reserves(self):
        self.expect([10], [[10], [10], [9], [0], [10]], [], [10])
        self.expect([60] * 4, [[60] * 4] * 5, [], [60] * 4)
        self.expect([0], [[0]] * 5, [], [0])

    def test_no_round_with_a_lot_for_everybody(self):
        self.expect([0] * 4, [[60] * 4] * 4, [], [0] * 4)
        self.expect([5, 5], [[9, 0], [0, 9]], [], [5, 5])

    def test_one_lot(self):
        self.expect([10], [[30], [50], [40]], [1] * 30, [40])
        self.expect([10], [[50], [50]], [1] * 40, [50])
        self.expect([49], [[50], [50]], [1], [50])

    def test_one_round(self):
        self.expect([2, 0], [[10, 7], [9, 1]], [1], [3, 0])

    def test_two_lots_that_rise_together_behind_one_that_rises_alone(self):
        self.expect([0, 0], [[20, 18], [15, 0], [0, 9]], [1] * 2 + [3] * 9, [11, 9])

    def test_reserves_are_the_prices_at_the_start(self):
        self.expect([4, 1], [[20, 18], [15, 0], [0, 9]], [2] + [3] * 7, [11, 9])
        self.expect([12, 3], [[20, 18], [15, 0], [0, 9]], [2] * 6, [12, 9])

    def test_the_first_of_several_sets_rises_until_it_is_not_overdemanded(self):
        self.expect([0, 0], [[0, 3], [0, 3], [2, 0], [2, 0]], [1] * 2 + [2] * 3, [2, 3])

    def test_the_order_of_the_sets(self):
        bids = [[1, 1, 0, 0], [1, 1, 0, 0], [1, 1, 0, 0], [0, 0, 0, 1], [0, 0, 0, 1]]
        self.expect([0] * 4, bids, [8, 3], [1, 1, 0, 1])

    def test_a_set_comes_back_after_another(self):
        # Whenever lot 1 rises, bidder 0 is back at lot 0 with bidder 1.
        self.expect([0, 0], [[9, 6], [9, 0], [0, 5], [0, 5]], [1] * 3 + [2, 1] * 5, [8, 5])

    def test_as_far_as_the_ranges_let_it(self):
        self.expect([0], [[60], [60]], [1] * 60, [60])
        self.expect([0] * 4, [[60] * 4] * 5, [15] * 60, [60] * 4)
        self.expect([0] * 4, [[60, 0, 0, 0]] * 2 + [[0, 0, 0, 60]] * 2, [1] * 60 + [8] * 60, [60, 0, 0, 60])
        chain = [[60, 0, 0, 0], [60, 60, 0, 0], [0, 60, 60, 0], [0, 0, 60, 60], [0, 0, 0, 60]]
        self.expect([0] * 4, chain, [15] * 60, [60] * 4)

    def test_each_time_from_the_start(self):
        bids = with_nobody_behind([[20, 18], [15, 0], [0, 9]])
        answered = after_closing_in_parts([0, 0], bids, [CLOCK] * 12)
        self.assertEqual(answered, [[0, 11] + [1] * 2 + [3] * 9 + [2, 11, 9]] * 12)


if __name__ == "__main__":
    unittest.main()
