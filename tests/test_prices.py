"""minimum_prices, maximum_prices, check_prices and demand_set where they succeed."""

import unittest

from tests.helpers import MAXIMUM, MINIMUM, after_closing, check, demand, with_nobody_behind


class MinimumAndMaximumTest(unittest.TestCase):

    def expect(self, reserves, bids, low, high):
        answered = after_closing(reserves, with_nobody_behind(bids), MINIMUM, MAXIMUM, check(low), check(high))
        self.assertEqual(answered, [[0, len(low)] + low, [0, len(high)] + high, [0, 1], [0, 1]])

    def test_one_lot_lies_between_the_second_bid_and_the_first(self):
        self.expect([10], [[30], [50], [40]], [40], [50])
        self.expect([10], [[50]], [10], [50])
        self.expect([10], [[50], [50]], [50], [50])
        self.expect([45], [[50], [40]], [45], [50])

    def test_an_unsold_lot_has_its_reserve(self):
        self.expect([10], [], [10], [10])
        self.expect([10], [[9]], [10], [10])
        self.expect([0, 60, 7, 1], [], [0, 60, 7, 1], [0, 60, 7, 1])
        self.expect([8, 5], [[7, 9]], [8, 5], [8, 9])

    def test_a_bid_that_is_the_reserve(self):
        self.expect([10], [[10]], [10], [10])
        self.expect([0], [[0]], [0], [0])

    def test_an_unsold_lot_bounds_the_price_of_the_other(self):
        self.expect([2, 3], [[20, 15]], [2, 3], [8, 3])

    def test_a_loser_bounds_all_prices(self):
        self.expect([0, 0], [[20, 18], [15, 0], [0, 9]], [11, 9], [15, 13])

    def test_four_lots(self):
        bids = [[50, 10, 10, 10], [10, 40, 10, 10], [10, 10, 30, 10], [10, 10, 10, 20], [25, 15, 12, 11]]
        self.expect([1, 2, 3, 4], bids, [25, 15, 12, 11], [50, 40, 30, 20])

    def test_equal_bids_of_all_on_all_lots(self):
        self.expect([0] * 4, [[60] * 4] * 5, [60] * 4, [60] * 4)
        self.expect([0] * 4, [[60] * 4] * 4, [0] * 4, [60] * 4)
        self.expect([0] * 4, [[60] * 4] * 3, [0] * 4, [0] * 4)


class CheckPricesTest(unittest.TestCase):

    def expect(self, reserves, bids, rows):
        """rows: pairs of prices and the fields they are answered with."""
        answered = after_closing(reserves, with_nobody_behind(bids), *[check(prices) for prices, _ in rows])
        self.assertEqual(answered, [[0] + fields for _, fields in rows])

    def test_one_sold_lot(self):
        self.expect([10], [[30], None, [20]], [
            ([20], [1]), ([25], [1]), ([30], [1]),
            ([31], [0, 2, 0]), ([1000], [0, 2, 0]),
            ([19], [0, 2, 2]), ([10], [0, 2, 2]),
            ([9], [0, 1, 0]), ([0], [0, 1, 0])])

    def test_one_unsold_lot(self):
        self.expect([10], [[9]], [
            ([10], [1]), ([9], [0, 1, 0]), ([11], [0, 1, 0]), ([0], [0, 1, 0]), ([1000], [0, 1, 0])])

    def test_prices_of_zero_and_no_bids(self):
        self.expect([0, 0], [], [([0, 0], [1]), ([0, 1], [0, 1, 1]), ([1, 0], [0, 1, 0]), ([1000, 1000], [0, 1, 0])])

    def test_the_first_wrong_lot_whatever_is_wrong_with_it(self):
        bids = [[9, 0, 0], [0, 0, 9]]
        self.expect([2, 5, 2], bids, [
            ([2, 5, 2], [1]), ([9, 5, 9], [1]),
            ([1, 6, 1], [0, 1, 0]), ([2, 6, 1], [0, 1, 1]), ([2, 4, 1], [0, 1, 1]), ([9, 5, 1], [0, 1, 2]),
            ([2, 6, 2], [0, 1, 1])])

    def test_a_wrong_lot_goes_ahead_of_a_bidder(self):
        self.expect([2, 5], [[9, 0]], [([10, 5], [0, 2, 0]), ([10, 6], [0, 1, 1]), ([10, 4], [0, 1, 1])])

    def test_the_first_discontent_bidder(self):
        bids = [[30, 0], None, [20, 20], [10, 0], [25, 0]]
        # Bidder 0 gets lot 0 and bidder 2 lot 1.
        self.expect([0, 0], bids, [
            ([25, 0], [1]), ([30, 10], [1]), ([25, 20], [1]),
            ([24, 0], [0, 2, 4]), ([9, 0], [0, 2, 3]), ([9, 10], [0, 2, 2]), ([31, 10], [0, 2, 0]),
            ([30, 21], [0, 2, 2]), ([31, 21], [0, 2, 0])])

    def test_a_bidder_with_a_lot_of_utility_zero_and_one_without(self):
        self.expect([5], [[7], [7]], [([7], [1]), ([6], [0, 2, 1]), ([8], [0, 2, 0])])

    def test_a_bidder_who_would_rather_have_the_unsold_lot(self):
        self.expect([2, 3], [[20, 15]], [([8, 3], [1]), ([9, 3], [0, 2, 0])])

    def test_absent_bidders_are_content_with_none(self):
        self.expect([0], [None, None, None, None, [0]], [([0], [1]), ([1], [0, 2, 4])])

    def test_largest_numbers(self):
        self.expect([60] * 4, [[60] * 4] * 4, [
            ([60] * 4, [1]), ([60, 60, 60, 1000], [0, 2, 3]), ([1000] * 4, [0, 2, 0]), ([60, 60, 60, 59], [0, 1, 3])])


class DemandSetTest(unittest.TestCase):

    def expect(self, row, pairs):
        """pairs: prices, and the demand set of a bidder who bids row."""
        reserves = [7] * len(pairs[0][0])
        for i in range(5):
            # The others must not matter.
            bids = [[60] * len(reserves)] * 5
            bids[i] = row
            answered = after_closing(reserves, bids, *[demand(i, prices) for prices, _ in pairs])
            self.assertEqual(answered, [[0, len(found)] + found for _, found in pairs])

    def test_one_lot(self):
        self.expect([20], [([0], [0]), ([19], [0]), ([20], [-1, 0]), ([21], [-1]), ([1000], [-1])])

    def test_four_lots(self):
        self.expect([20, 30, 40, 50], [
            ([0, 0, 0, 0], [3]),
            ([10, 20, 30, 40], [0, 1, 2, 3]),
            ([20, 30, 40, 50], [-1, 0, 1, 2, 3]),
            ([21, 31, 41, 51], [-1]),
            ([21, 30, 41, 50], [-1, 1, 3]),
            ([20, 1000, 1000, 1000], [-1, 0]),
            ([19, 30, 40, 50], [0]),
            ([15, 26, 35, 46], [0, 2]),
            ([1000, 1000, 1000, 49], [3]),
            ([1000, 1000, 1000, 1000], [-1])])

    def test_bids_and_prices_of_zero(self):
        self.expect([0, 0, 0], [([0, 0, 0], [-1, 0, 1, 2]), ([0, 1, 0], [-1, 0, 2]), ([1, 1, 1], [-1])])

    def test_largest_bids(self):
        self.expect([60, 60], [([60, 1000], [-1, 0]), ([59, 59], [0, 1]), ([61, 60], [-1, 1]), ([1000, 0], [1])])

    def test_prices_below_the_reserves_are_taken_as_they_stand(self):
        self.expect([5, 6], [([0, 0], [1]), ([1, 2], [0, 1]), ([6, 6], [-1, 1])])

    def test_absent_bidders_demand_none_alone(self):
        for lots in range(1, 5):
            answered = after_closing([0] * lots, [None] * 5, *[demand(i, [0] * lots) for i in range(5)],
                                     *[demand(i, [1000] * lots) for i in range(5)])
            self.assertEqual(answered, [[0, 1, -1]] * 10)

    def test_each_bidder_has_a_demand_set_of_its_own(self):
        bids = [[9, 1], [1, 9], None, [5, 5], [2, 0]]
        answered = after_closing([0, 0], bids, *[demand(i, [2, 2]) for i in range(5)])
        self.assertEqual(answered, [[0, 1, 0], [0, 1, 1], [0, 1, -1], [0, 2, 0, 1], [0, 2, -1, 0]])


if __name__ == "__main__":
    unittest.main()
