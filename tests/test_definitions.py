"""The answers against the document's definitions, tried out case by case over many auctions."""

import random
import unittest

from tests import oracle
from tests.auctions import many_auctions, prices_near, small_auctions, some_rows
from tests.helpers import (
    BIDS, CLOCK, MAXIMUM, MINIMUM, RESULT, SUBMITTED, SUMMARY, TOTAL, after_closing, after_closing_in_parts, check,
    demand, hypothetical, overdemanded, total_without, truthful, utility)


def listed(row):
    return [len(row)] + list(row)


class ResultAndPricesTest(unittest.TestCase):

    def test_result_and_total_value(self):
        for reserves, bids in many_auctions():
            result, total = after_closing(reserves, bids, RESULT, TOTAL)
            counted = oracle.counted(bids, len(reserves))
            expected = [number for pair in oracle.results(reserves, counted) for number in pair]
            self.assertEqual(result, [0] + expected, (reserves, bids))
            self.assertEqual(total, [0, oracle.best(reserves, counted)[0]], (reserves, bids))

    def test_minimum_and_maximum_prices(self):
        for reserves, bids in many_auctions():
            low, high = after_closing(reserves, bids, MINIMUM, MAXIMUM)
            counted = oracle.counted(bids, len(reserves))
            self.assertEqual(low, [0] + listed(oracle.minimum_prices(reserves, counted)), (reserves, bids))
            self.assertEqual(high, [0] + listed(oracle.maximum_prices(reserves, counted)), (reserves, bids))

    def test_check_prices_demand_set_and_overdemanded_set(self):
        source = random.Random(7)
        for reserves, bids in many_auctions():
            counted = oracle.counted(bids, len(reserves))
            allocation = oracle.best(reserves, counted)[1]
            low = oracle.minimum_prices(reserves, counted)
            high = oracle.maximum_prices(reserves, counted)
            tried = [reserves, low, high] + [prices_near(source, low, high) for _ in range(7)]
            answered = after_closing(reserves, bids, *[check(prices) for prices in tried])
            expected = [[0] + oracle.check(reserves, counted, allocation, prices) for prices in tried]
            self.assertEqual(answered, expected, (reserves, bids, tried))
            for i in range(5):
                answered = after_closing(reserves, bids, *[demand(i, prices) for prices in tried])
                expected = [[0] + listed(oracle.demand_set(counted[i], prices)) for prices in tried]
                self.assertEqual(answered, expected, (reserves, bids, tried))


class ClockTest(unittest.TestCase):

    def expect_overdemanded(self, reserves, bids, tried):
        counted = oracle.counted(bids, len(reserves))
        answered = after_closing_in_parts(reserves, bids, [overdemanded(prices) for prices in tried])
        found = [oracle.first_overdemanded(counted, prices) for prices in tried]
        expected = [[0, 0] if members is None else [0, 1, members] for members in found]
        self.assertEqual(answered, expected, (reserves, bids, tried))

    def test_overdemanded_set_at_low_prices(self):
        for reserves, bids in many_auctions():
            lots = len(reserves)
            tried = [reserves, [0] * lots, [1] * lots, [60] * lots, [1000] * lots]
            for lot in range(lots):
                for price in (0, 1, 3):
                    tried.append([price if lot == j else 0 for j in range(lots)])
                    tried.append([price if lot == j else reserves[j] for j in range(lots)])
            self.expect_overdemanded(reserves, bids, tried)

    def test_overdemanded_set_at_any_prices(self):
        source = random.Random(8)
        for reserves, bids in many_auctions():
            self.expect_overdemanded(reserves, bids, some_rows(source, len(reserves)))

    def test_run_clock(self):
        for reserves, bids in many_auctions():
            sets, prices = oracle.clock(reserves, oracle.counted(bids, len(reserves)))
            answered = after_closing(reserves, bids, CLOCK)
            self.assertEqual(answered, [[0] + listed(sets) + listed(prices)], (reserves, bids))

    def test_each_round_raises_what_overdemanded_set_tells(self):
        for reserves, bids in small_auctions(30, 4, 9, seed=3):
            clock = after_closing(reserves, bids, CLOCK)[0]
            sets, prices = clock[2:2 + clock[1]], list(reserves)
            tried = []
            for members in sets:
                tried.append(prices)
                prices = [price + (members >> lot & 1) for lot, price in enumerate(prices)]
            answered = after_closing_in_parts(reserves, bids, [overdemanded(row) for row in tried + [prices]])
            self.assertEqual(answered, [[0, 1, members] for members in sets] + [[0, 0]], (reserves, bids))
            self.assertEqual(clock[2 + clock[1]:], listed(prices))


class OtherBidsTest(unittest.TestCase):

    def test_hypothetical_result_and_truthful_utility(self):
        source = random.Random(9)
        for reserves, bids in many_auctions(3):
            counted = oracle.counted(bids, len(reserves))
            rows = some_rows(source, len(reserves), 1)
            for i in range(5):
                results = [oracle.result_if(reserves, counted, i, row) for row in rows]
                answered = after_closing(reserves, bids, *[hypothetical(i, row) for row in rows],
                                         *[truthful(i, row) for row in rows])
                expected = [[0, *result] for result in results]
                expected += [[0, oracle.utility(result, row)] for result, row in zip(results, rows)]
                self.assertEqual(answered, expected, (reserves, bids, i, rows))

    def test_utility(self):
        source = random.Random(10)
        for reserves, bids in many_auctions(10):
            results = oracle.results(reserves, oracle.counted(bids, len(reserves)))
            asked = [(i, row) for i in range(5) for row in some_rows(source, len(reserves), 1)]
            answered = after_closing_in_parts(reserves, bids, [utility(i, row) for i, row in asked])
            self.assertEqual(answered, [[0, oracle.utility(results[i], row)] for i, row in asked], (reserves, bids))

    def test_total_without(self):
        for reserves, bids in many_auctions():
            counted = oracle.counted(bids, len(reserves))
            answered = after_closing(reserves, bids, *[total_without(i) for i in range(5)])
            expected = [[0, oracle.best(reserves, counted[:i] + counted[i + 1:])[0]] for i in range(5)]
            self.assertEqual(answered, expected, (reserves, bids))

    def test_who_gets_a_lot_pays_what_the_others_lose(self):
        for reserves, bids in many_auctions():
            result, total, *others = after_closing(reserves, bids, RESULT, TOTAL, *[total_without(i) for i in range(5)])
            for i, row in enumerate(bids):
                lot, payment = result[1 + 2 * i:3 + 2 * i]
                without = others[i][1]
                self.assertEqual(payment, without - total[1] + (row[lot] if lot >= 0 else 0), (reserves, bids, i))


class TellingTest(unittest.TestCase):

    def test_list_submitted_list_bids_and_summary(self):
        for reserves, bids in many_auctions():
            counted = oracle.counted(bids, len(reserves))
            answered = after_closing(reserves, bids, SUBMITTED, BIDS, SUMMARY)
            expected = [[0] + [0 if row is None else 1 for row in bids], [0] + [bid for row in counted for bid in row],
                        [0] + listed(reserves) + [1]]
            self.assertEqual(answered, expected)


if __name__ == "__main__":
    unittest.main()
