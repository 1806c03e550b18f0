"""The answers against the document's definitions and requirements, over many auctions."""

import itertools
import random
import unittest

from tests import oracle
from tests.helpers import CLOSE, MAXIMUM, MINIMUM, RESULT, TOTAL, after_closing, ask, check, demand, new, submit


def small_auctions(count, lots, highest, seed):
    """Auctions of few and small numbers, so that there are many ties; some bidders without bids."""
    source = random.Random(seed)
    for _ in range(count):
        reserves = [source.randint(0, highest) for _ in range(lots)]
        bids = []
        for _ in range(5):
            row = [source.randint(0, highest) for _ in range(lots)]
            bids.append(None if source.randint(0, 4) == 0 else row)
        yield reserves, bids


def many_auctions():
    """Auctions of one to four lots, from those full of ties to those of the largest numbers."""
    for lots in range(1, 5):
        for highest, count in ((1, 30), (2, 30), (5, 30), (60, 30)):
            yield from small_auctions(count, lots, highest, seed=100 * lots + highest)


def prices_of(answer):
    assert answer[0] == 0 and answer[1] == len(answer) - 2, answer
    return answer[2:]


class DefinitionsTest(unittest.TestCase):

    def test_result_and_total_value(self):
        for reserves, bids in many_auctions():
            result, total = after_closing(reserves, bids, RESULT, TOTAL)
            counted = oracle.counted(bids, len(reserves))
            value, allocation = oracle.best(reserves, counted)
            prices = oracle.minimum_prices(reserves, counted)
            expected = []
            for lot in allocation:
                expected += [-1, 0] if lot == -1 else [lot, prices[lot]]
            self.assertEqual((result, total), ([0] + expected, [0, value]), (reserves, bids))

    def test_minimum_and_maximum_prices(self):
        for reserves, bids in many_auctions():
            low, high = after_closing(reserves, bids, MINIMUM, MAXIMUM)
            counted = oracle.counted(bids, len(reserves))
            self.assertEqual(prices_of(low), oracle.minimum_prices(reserves, counted), (reserves, bids))
            self.assertEqual(prices_of(high), oracle.maximum_prices(reserves, counted), (reserves, bids))

    def test_check_prices_and_demand_set(self):
        source = random.Random(7)
        for reserves, bids in many_auctions():
            counted = oracle.counted(bids, len(reserves))
            allocation = oracle.best(reserves, counted)[1]
            low = oracle.minimum_prices(reserves, counted)
            high = oracle.maximum_prices(reserves, counted)
            tried = [reserves, low, high]
            for _ in range(7):
                near = [source.randint(a, b) + source.choice((0, 0, 0, 0, -1, 1)) for a, b in zip(low, high)]
                tried.append([max(0, price) for price in near])
            answered = after_closing(reserves, bids, *[check(prices) for prices in tried])
            expected = [[0] + oracle.check(reserves, counted, allocation, prices) for prices in tried]
            self.assertEqual(answered, expected, (reserves, bids, tried))
            for i in range(5):
                answered = after_closing(reserves, bids, *[demand(i, prices) for prices in tried])
                expected = [oracle.demand_set(counted[i], prices) for prices in tried]
                self.assertEqual(answered, [[0, len(lots)] + lots for lots in expected], (reserves, bids, tried))


class RequirementsTest(unittest.TestCase):

    def test_no_allocation_has_a_larger_value(self):
        for reserves, bids in many_auctions():
            result, total = after_closing(reserves, bids, RESULT, TOTAL)
            counted = oracle.counted(bids, len(reserves))
            self.assertEqual(total, [0, oracle.value_of(result[1::2], reserves, counted)])
            for allocation in oracle.allocations(5, len(reserves)):
                self.assertLessEqual(oracle.value_of(allocation, reserves, counted), total[1])

    def test_minimum_and_maximum_prices_are_equilibrium_prices(self):
        for reserves, bids in many_auctions():
            result, low, high = after_closing(reserves, bids, RESULT, MINIMUM, MAXIMUM)
            counted = oracle.counted(bids, len(reserves))
            for prices in (prices_of(low), prices_of(high)):
                self.assertEqual(oracle.check(reserves, counted, result[1::2], prices), [1], (reserves, bids))
                self.assertEqual(after_closing(reserves, bids, check(prices)), [[0, 1]], (reserves, bids))

    def test_all_equilibrium_prices_lie_between_them(self):
        for lots, highest, count in ((1, 6, 60), (2, 5, 60), (3, 3, 40), (4, 2, 30)):
            for reserves, bids in small_auctions(count, lots, highest, seed=lots):
                low, high = after_closing(reserves, bids, MINIMUM, MAXIMUM)
                found = oracle.equilibria(reserves, oracle.counted(bids, lots), highest + 1)
                self.assertEqual(prices_of(low), [min(column) for column in zip(*found)], (reserves, bids))
                self.assertEqual(prices_of(high), [max(column) for column in zip(*found)], (reserves, bids))

    def test_the_clock_would_end_at_the_minimum_prices(self):
        for reserves, bids in many_auctions():
            low = after_closing(reserves, bids, MINIMUM)[0]
            counted = oracle.counted(bids, len(reserves))
            self.assertEqual(prices_of(low), oracle.clock_prices(reserves, counted), (reserves, bids))

    def test_no_bids_are_better_than_the_true_values(self):
        def utility(reserves, bids, values):
            result = after_closing(reserves, bids, RESULT)[0][1:]
            return values[result[0]] - result[1] if result[0] >= 0 else 0

        for lots, highest, count in ((1, 5, 30), (2, 4, 20), (3, 2, 10)):
            for reserves, bids in small_auctions(count, lots, highest, seed=lots + 50):
                values = bids[0] or [highest] * lots
                truthful = utility(reserves, [values] + bids[1:], values)
                self.assertGreaterEqual(truthful, 0)
                self.assertGreaterEqual(truthful, utility(reserves, [None] + bids[1:], values))
                for row in itertools.product(range(highest + 2), repeat=lots):
                    self.assertGreaterEqual(truthful, utility(reserves, [list(row)] + bids[1:], values))

    def test_until_closing_no_answer_depends_on_the_bids(self):
        def told(bids):
            calls = [submit(i, row) for i, row in enumerate(bids)]
            return ask(new([3, 4]), *calls, RESULT, MINIMUM, MAXIMUM, TOTAL, check([3, 4]), demand(0, [3, 4]),
                       *calls, CLOSE)

        source = random.Random(11)
        expected = told([[0, 0]] * 5)
        for _ in range(100):
            self.assertEqual(told([[source.randint(0, 60), source.randint(0, 60)] for _ in range(5)]), expected)


if __name__ == "__main__":
    unittest.main()
