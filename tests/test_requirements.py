"""The document's four requirements, over many auctions."""

import itertools
import random
import unittest

from tests import oracle
from tests.auctions import many_auctions, small_auctions, some_rows
from tests.helpers import (
    BIDS, CLOCK, CLOSE, MAXIMUM, MINIMUM, RESULT, SUBMITTED, SUMMARY, TOTAL, after_closing, after_closing_in_parts, ask,
    check, demand, hypothetical, new, overdemanded, submit, total_without, truthful, utility)


def prices_of(answer):
    assert answer[0] == 0 and answer[1] == len(answer) - 2, answer
    return answer[2:]


def end_of(clock):
    """The prices at the end of what run_clock answers."""
    assert clock[0] == 0 and clock[2 + clock[1]] == len(clock) - clock[1] - 3, clock
    return clock[3 + clock[1]:]


class LargestValueTest(unittest.TestCase):
    """Requirement 1."""

    def test_no_allocation_has_a_larger_value(self):
        for reserves, bids in many_auctions():
            result, total = after_closing(reserves, bids, RESULT, TOTAL)
            counted = oracle.counted(bids, len(reserves))
            self.assertEqual(total, [0, oracle.value_of(result[1::2], reserves, counted)])
            for allocation in oracle.allocations(5, len(reserves)):
                self.assertLessEqual(oracle.value_of(allocation, reserves, counted), total[1])

    def test_every_auction_of_the_smallest_numbers(self):
        for numbers in itertools.product(range(2), repeat=8):
            reserves, bids = list(numbers[:2]), [list(numbers[at:at + 2]) for at in (2, 4, 6)]
            result, total = after_closing(reserves, bids, RESULT, TOTAL)
            counted = oracle.counted(bids + [None] * 2, 2)
            values = [oracle.value_of(allocation, reserves, counted) for allocation in oracle.allocations(5, 2)]
            self.assertEqual(total, [0, max(values)])
            self.assertEqual(oracle.value_of(result[1::2], reserves, counted), max(values))

    def test_equilibrium_prices_prove_it(self):
        for reserves, bids in many_auctions():
            result, low, high = after_closing(reserves, bids, RESULT, MINIMUM, MAXIMUM)
            counted = oracle.counted(bids, len(reserves))
            for prices in (prices_of(low), prices_of(high)):
                self.assertEqual(oracle.check(reserves, counted, result[1::2], prices), [1], (reserves, bids))
                self.assertEqual(after_closing(reserves, bids, check(prices)), [[0, 1]], (reserves, bids))


class PricesTest(unittest.TestCase):
    """Requirement 2."""

    def test_all_equilibrium_prices_lie_between_the_minimum_and_the_maximum_prices(self):
        for lots, highest, count in ((1, 6, 60), (2, 5, 60), (3, 3, 40), (4, 2, 30)):
            for reserves, bids in small_auctions(count, lots, highest, seed=lots):
                low, high = after_closing(reserves, bids, MINIMUM, MAXIMUM)
                found = oracle.equilibria(reserves, oracle.counted(bids, lots), highest + 1)
                self.assertEqual(prices_of(low), [min(column) for column in zip(*found)], (reserves, bids))
                self.assertEqual(prices_of(high), [max(column) for column in zip(*found)], (reserves, bids))

    def test_what_check_prices_accepts_lies_between_them(self):
        for lots, highest, count in ((1, 6, 20), (2, 3, 20), (3, 2, 10)):
            for reserves, bids in small_auctions(count, lots, highest, seed=lots + 20):
                low, high = [prices_of(answer) for answer in after_closing(reserves, bids, MINIMUM, MAXIMUM)]
                tried = [list(prices) for prices in itertools.product(range(highest + 2), repeat=lots)]
                answered = after_closing_in_parts(reserves, bids, [check(prices) for prices in tried])
                found = [prices for prices, answer in zip(tried, answered) if answer == [0, 1]]
                self.assertEqual(low, [min(column) for column in zip(*found)], (reserves, bids))
                self.assertEqual(high, [max(column) for column in zip(*found)], (reserves, bids))

    def test_the_clock_ends_at_the_minimum_prices(self):
        for reserves, bids in many_auctions():
            low, clock = after_closing(reserves, bids, MINIMUM, CLOCK)
            self.assertEqual(end_of(clock), prices_of(low), (reserves, bids))
            self.assertEqual(after_closing(reserves, bids, check(end_of(clock)), overdemanded(end_of(clock))),
                             [[0, 1], [0, 0]], (reserves, bids))


class TruthTest(unittest.TestCase):
    """Requirement 3."""

    def test_no_bids_are_better_than_the_true_values(self):
        for lots, highest, count in ((1, 5, 20), (2, 3, 8), (3, 1, 8)):
            for reserves, bids in small_auctions(count, lots, highest, seed=lots + 50):
                rows = [list(row) for row in itertools.product(range(highest + 2), repeat=lots)]
                for i in range(5):
                    self.expect_truth_is_best(reserves, bids, i, rows)

    def test_no_bids_are_better_with_larger_numbers(self):
        source = random.Random(12)
        for lots in range(1, 5):
            for reserves, bids in small_auctions(4, lots, 60, seed=lots + 70):
                for i in range(5):
                    self.expect_truth_is_best(reserves, bids, i, some_rows(source, lots))

    def expect_truth_is_best(self, reserves, bids, i, rows):
        """Each of the rows as true values, against each of them as bids."""
        answered = after_closing_in_parts(reserves, bids, [truthful(i, row) for row in rows])
        results = after_closing_in_parts(reserves, bids, [hypothetical(i, row) for row in rows])
        for values, truth in zip(rows, answered):
            self.assertGreaterEqual(truth[1], 0)
            best = max(oracle.utility(result[1:], values) for result in results)
            self.assertGreaterEqual(truth[1], best, (reserves, bids, i, values))

    def test_no_submitted_bids_are_better_than_the_true_values(self):
        source = random.Random(13)
        for lots in range(1, 5):
            for reserves, bids in small_auctions(6, lots, 6, seed=lots + 90):
                i = source.randint(0, 4)
                values = some_rows(source, lots, 2)
                truths = []
                for row in some_rows(source, lots) + [None]:
                    submitted = bids[:i] + [row] + bids[i + 1:]
                    answered = after_closing(reserves, submitted, *[utility(i, true) for true in values],
                                             *[truthful(i, true) for true in values])
                    truths.append(answered[6:])
                    for told, truth in zip(answered[:6], answered[6:]):
                        self.assertLessEqual(told[1], truth[1], (reserves, submitted, i, values))
                # What would come of the true values does not depend on what was submitted in their place.
                self.assertEqual(truths, [truths[0]] * len(truths))

    def test_the_true_values_as_submitted_bids_have_the_truthful_utility(self):
        for reserves, bids in many_auctions(5):
            for i, row in enumerate(bids):
                if row is not None:
                    told, truth = after_closing(reserves, bids, utility(i, row), truthful(i, row))
                    self.assertEqual(told, truth)


class SealedTest(unittest.TestCase):
    """Requirement 4."""

    ASKED = [RESULT, MINIMUM, MAXIMUM, TOTAL, CLOCK, BIDS, SUBMITTED, SUMMARY, check([3, 4]), demand(0, [3, 4]),
             overdemanded([3, 4]), hypothetical(1, [60, 60]), utility(1, [9, 9]), truthful(1, [9, 9]), total_without(0)]

    def told(self, rows):
        """What is answered until closing; rows are nine bids, of which the last four replace others."""
        bidders = (0, 1, 3, 4, 2, 1, 4, 4, 0)
        calls = [submit(i, row) for i, row in zip(bidders, rows)]
        return ask(new([3, 4]), *calls[:2], SUBMITTED, SUMMARY, *calls[2:6], *self.ASKED, *calls[6:], SUBMITTED, CLOSE)

    def test_until_closing_no_answer_depends_on_the_bids(self):
        source = random.Random(11)
        expected = self.told([[0, 0]] * 9)
        self.assertEqual(expected[9:24], [[-5]] * 6 + [[0, 1, 1, 1, 1, 1], [0, 2, 3, 4, 0]] + [[-5]] * 7)
        self.assertEqual(self.told([[60, 60]] * 9), expected)
        for _ in range(200):
            rows = [[source.randint(0, 60), source.randint(0, 60)] for _ in range(9)]
            self.assertEqual(self.told(rows), expected, rows)

    def test_it_does_depend_on_who_has_submitted(self):
        self.assertNotEqual(ask(new([3]), submit(0, [5]), SUBMITTED), ask(new([3]), submit(1, [5]), SUBMITTED))


if __name__ == "__main__":
    unittest.main()
