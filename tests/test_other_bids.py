"""hypothetical_result, utility, truthful_utility and total_without where they succeed."""

import unittest

from tests.helpers import (
    RESULT, TOTAL, after_closing, after_closing_in_parts, hypothetical, total_without, truthful, utility,
    with_nobody_behind)

# Bidder 1 gets the lot and pays 40.
ONE_LOT = ([10], [[30], [50], [40]])
# Bidder 0 gets lot 1 for 9, and bidder 1 lot 0 for 11.
TWO_LOTS = ([0, 0], [[20, 18], [15, 0], [0, 9]])
# Lot j goes to bidder j, for what bidder 4 bids.
FOUR_LOTS = ([1, 2, 3, 4], [[50, 10, 10, 10], [10, 40, 10, 10], [10, 10, 30, 10], [10, 10, 10, 20], [25, 15, 12, 11]])


class OtherBidsTest(unittest.TestCase):

    def expect(self, made, auction, rows):
        """rows: the arguments of made, and the fields that the call is answered with."""
        reserves, bids = auction
        answered = after_closing_in_parts(reserves, with_nobody_behind(bids), [made(*row[:-1]) for row in rows])
        self.assertEqual(answered, [[0] + row[-1] for row in rows])


class HypotheticalResultTest(OtherBidsTest):

    def test_one_lot(self):
        self.expect(hypothetical, ONE_LOT, [
            (0, [30], [-1, 0]), (0, [49], [-1, 0]), (0, [51], [0, 50]), (0, [60], [0, 50]), (0, [0], [-1, 0]),
            (1, [60], [0, 40]), (1, [41], [0, 40]), (1, [39], [-1, 0]), (1, [0], [-1, 0]),
            (2, [51], [0, 50]), (2, [49], [-1, 0])])

    def test_equal_bids_go_to_the_first_bidder(self):
        self.expect(hypothetical, ONE_LOT, [
            (0, [50], [0, 50]), (1, [40], [0, 40]), (2, [50], [-1, 0]), (3, [50], [-1, 0])])

    def test_a_bidder_who_submitted_none(self):
        self.expect(hypothetical, ONE_LOT, [(3, [60], [0, 50]), (4, [51], [0, 50]), (4, [50], [-1, 0])])
        self.expect(hypothetical, ([10], []), [
            (2, [60], [0, 10]), (2, [10], [0, 10]), (2, [9], [-1, 0]), (0, [0], [-1, 0])])
        self.expect(hypothetical, ([0, 0], []), [(4, [0, 0], [0, 0]), (4, [0, 1], [1, 0])])

    def test_two_lots(self):
        self.expect(hypothetical, TWO_LOTS, [
            (0, [20, 18], [1, 9]), (0, [21, 18], [1, 9]), (0, [24, 18], [0, 15]), (0, [15, 0], [0, 15]),
            (0, [14, 8], [-1, 0]), (1, [12, 0], [0, 11]), (1, [10, 0], [-1, 0]), (1, [15, 60], [1, 9]),
            (2, [0, 14], [1, 13]), (2, [60, 0], [0, 15]), (3, [60, 60], [1, 13]), (3, [60, 0], [0, 15])])

    def test_a_tie_that_the_other_bids_make_goes_to_the_first_bidder(self):
        # Lot 1 for bidder 0 and lot 0 for bidder 1 are worth 29, and so are lot 0 for bidder 0 and lot 1 for bidder 2.
        self.expect(hypothetical, TWO_LOTS, [(1, [11, 0], [-1, 0])])

    def test_four_lots(self):
        self.expect(hypothetical, FOUR_LOTS, [
            (0, [60, 60, 60, 60], [3, 20]), (0, [0, 0, 0, 60], [3, 20]), (4, [60, 0, 0, 0], [0, 50]),
            (4, [60, 60, 60, 60], [3, 20]), (4, [0, 0, 0, 0], [-1, 0]), (0, [0, 0, 0, 0], [-1, 0])])

    def test_the_payment_is_the_one_behind_the_other_bids(self):
        # With bids for lot 0 alone, bidder 0 does not drive the price of bidder 1 for lot 1 any more.
        self.expect(hypothetical, ([3, 4], [[30, 20], [0, 25]]), [
            (1, [0, 25], [1, 4]), (1, [25, 0], [0, 14]), (0, [30, 20], [0, 3]), (0, [0, 20], [-1, 0]),
            (0, [0, 26], [1, 25])])

    def test_the_same_bids_give_the_same_result(self):
        for reserves, bids in (ONE_LOT, TWO_LOTS, FOUR_LOTS):
            calls = [hypothetical(i, row) for i, row in enumerate(bids)]
            answered = after_closing(reserves, bids, RESULT, *calls)
            expected = answered[0][1:]
            self.assertEqual(answered[1:], [[0] + expected[2 * i:2 * i + 2] for i in range(len(bids))])


class UtilityTest(OtherBidsTest):

    def test_the_value_of_the_lot_minus_the_payment(self):
        self.expect(utility, ONE_LOT, [(1, [50], [10]), (1, [60], [20]), (1, [41], [1]), (1, [40], [0])])
        self.expect(utility, TWO_LOTS, [(0, [20, 18], [9]), (0, [60, 10], [1]), (1, [15, 60], [4]), (1, [11, 60], [0])])
        self.expect(utility, FOUR_LOTS, [(0, [26, 9, 9, 9], [1]), (1, [9, 26, 9, 9], [11]), (2, [9, 9, 26, 9], [14]),
                                         (3, [9, 9, 9, 26], [15])])

    def test_a_value_below_the_payment(self):
        self.expect(utility, ONE_LOT, [(1, [39], [-1]), (1, [0], [-40])])
        self.expect(utility, TWO_LOTS, [(0, [60, 0], [-9]), (1, [0, 60], [-11])])
        self.expect(utility, ([60], [[60], [60]]), [(0, [0], [-60]), (0, [60], [0])])

    def test_nothing_without_a_lot(self):
        self.expect(utility, ONE_LOT, [(0, [60], [0]), (2, [0], [0]), (2, [60], [0])])
        self.expect(utility, TWO_LOTS, [(2, [60, 60], [0]), (2, [0, 0], [0])])
        self.expect(utility, FOUR_LOTS, [(4, [60, 60, 60, 60], [0]), (4, [0, 0, 0, 0], [0])])

    def test_nothing_for_a_bidder_who_submitted_none(self):
        self.expect(utility, ONE_LOT, [(3, [60], [0]), (4, [0], [0])])
        self.expect(utility, ([0, 0], []), [(i, [60, 60], [0]) for i in range(5)])

    def test_all_that_the_values_may_be(self):
        self.expect(utility, ([0], [[1]]), [(0, [0], [0]), (0, [60], [60])])


class TruthfulUtilityTest(OtherBidsTest):

    def test_one_lot(self):
        self.expect(truthful, ONE_LOT, [
            (0, [60], [10]), (0, [51], [1]), (0, [50], [0]), (0, [30], [0]), (0, [0], [0]),
            (1, [60], [20]), (1, [41], [1]), (1, [40], [0]), (1, [0], [0]), (2, [55], [5]), (2, [40], [0])])

    def test_a_bidder_who_submitted_none(self):
        self.expect(truthful, ONE_LOT, [(3, [58], [8]), (4, [60], [10]), (3, [50], [0]), (4, [0], [0])])
        self.expect(truthful, ([10, 3], []), [(2, [60, 60], [57]), (2, [20, 5], [10]), (2, [9, 2], [0])])

    def test_another_lot_than_in_the_result(self):
        self.expect(truthful, TWO_LOTS, [
            (0, [20, 18], [9]), (0, [24, 18], [9]), (0, [25, 18], [10]), (0, [0, 18], [9]), (0, [14, 8], [0]),
            (1, [15, 0], [4]), (1, [0, 15], [6]), (1, [0, 20], [11]), (2, [0, 9], [0]), (2, [0, 14], [1]),
            (2, [16, 0], [1])])

    def test_four_lots(self):
        self.expect(truthful, FOUR_LOTS, [
            (0, [50, 10, 10, 10], [25]), (3, [10, 10, 10, 20], [9]), (4, [25, 15, 12, 11], [0]),
            (4, [60, 60, 60, 60], [40]), (0, [60, 60, 60, 60], [40]), (4, [0, 0, 0, 0], [0])])

    def test_it_is_not_the_utility_of_the_result(self):
        reserves, bids = ONE_LOT
        asked = [utility(1, [20]), truthful(1, [20]), utility(2, [60]), truthful(2, [60])]
        answered = after_closing(reserves, bids, *asked)
        self.assertEqual(answered, [[0, -20], [0, 0], [0, 0], [0, 10]])


class TotalWithoutTest(OtherBidsTest):

    def test_a_bidder_with_a_lot(self):
        self.expect(total_without, ONE_LOT, [(1, [40])])
        self.expect(total_without, TWO_LOTS, [(0, [24]), (1, [29])])
        self.expect(total_without, FOUR_LOTS, [(0, [115]), (1, [115]), (2, [122]), (3, [131])])

    def test_a_bidder_without_a_lot(self):
        self.expect(total_without, ONE_LOT, [(0, [50]), (2, [50])])
        self.expect(total_without, TWO_LOTS, [(2, [33])])
        self.expect(total_without, FOUR_LOTS, [(4, [140])])

    def test_a_bidder_who_submitted_none(self):
        self.expect(total_without, ONE_LOT, [(3, [50]), (4, [50])])
        self.expect(total_without, ([0], []), [(i, [0]) for i in range(5)])
        self.expect(total_without, ([60] * 4, []), [(i, [240]) for i in range(5)])

    def test_the_only_bidder(self):
        self.expect(total_without, ([7], [None, [9]]), [(0, [9]), (1, [7]), (2, [9])])
        self.expect(total_without, ([0, 0], [[60, 60]]), [(0, [0]), (1, [60])])

    def test_one_of_two_equal_bidders(self):
        self.expect(total_without, ([3], [[8], [8]]), [(0, [8]), (1, [8]), (2, [8])])

    def test_all_bidders_bid_the_most(self):
        self.expect(total_without, ([0] * 4, [[60] * 4] * 5), [(i, [240]) for i in range(5)])
        self.expect(total_without, ([0] * 4, [[60] * 4] * 4), [(0, [180]), (3, [180]), (4, [240])])

    def test_more_often_than_other_calls(self):
        answered = after_closing(*ONE_LOT, *[total_without(i % 5) for i in range(40)], TOTAL)
        self.assertEqual(answered, [[0, 50], [0, 40], [0, 50], [0, 50], [0, 50]] * 8 + [[0, 50]])


if __name__ == "__main__":
    unittest.main()
