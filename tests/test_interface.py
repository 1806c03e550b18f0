"""How answers is called and what it gives back."""

import inspect
import time
import unittest

from sealedlots import auction
from tests.helpers import (
    BIDS, CLOCK, CLOSE, FAR, MAXIMUM, MINIMUM, RESULT, SUBMITTED, SUMMARY, TOTAL, ask, check, demand, flat,
    hypothetical, new, overdemanded, split, submit, total_without, truthful, utility)

# Calls 0 to 8 in the one list, 9 to 17 in the other: refused ones and others.
FIRST_CALLS = [
    TOTAL, new([]), new([3, 4, 5]), submit(0, [9, 8, 7]), submit(3, [8, 8, 8]), submit(3, [9, 9, 0]), submit(9, [1]),
    submit(1, [FAR] * 10), RESULT, CLOSE, RESULT, MINIMUM, MAXIMUM, TOTAL, check([3, 4, 5]), check([3, 4]),
    check([-FAR]), demand(0, [6, 5, 4]), demand(1, [0, 0, 0]), demand(3, [9, 9, 1]), demand(-FAR, []), CLOSE]
LAST_CALLS = [
    SUMMARY, SUBMITTED, CLOCK, new([3, 4, 5]), SUMMARY, submit(0, [9, 8, 7]), submit(3, [9, 8, 0]), SUBMITTED, BIDS,
    CLOCK, overdemanded([3, 4, 5]), CLOSE, CLOCK, overdemanded([3, 4, 5]), overdemanded([3]), overdemanded([8, 8, 8]),
    hypothetical(1, [9, 9, 9]), hypothetical(0, [FAR, 0, 0]), hypothetical(4, []), utility(0, [1, 1, 1]),
    utility(3, [9, 9, 9]), utility(-1, []), truthful(2, [60, 60, 60]), truthful(2, [-FAR] * 10), total_without(0),
    total_without(FAR), SUBMITTED, BIDS, SUMMARY]
BOTH = (FIRST_CALLS, LAST_CALLS)


class Unchanging(list):
    """A list that can be read only."""

    def refuse(self, *arguments, **named):
        raise AssertionError("what is handed in was changed")

    __setitem__ = __delitem__ = __iadd__ = __imul__ = refuse
    append = clear = extend = insert = pop = remove = reverse = sort = refuse


class InterfaceTest(unittest.TestCase):

    def test_the_name_and_its_argument(self):
        self.assertEqual(list(inspect.signature(auction.answers).parameters), ["calls"])
        self.assertEqual(auction.answers(calls=[2]), [1, -2])

    def test_each_answer_has_its_length_ahead(self):
        self.assertEqual(auction.answers([0, 1, 7]), [1, 0])
        self.assertEqual(auction.answers([0, 0]), [1, -1])
        self.assertEqual(auction.answers([0, 1, 7, 2, 4, 3]), [1, 0, 2, 0, 0, 3, 0, 1, 7, 11, 0] + [-1, 0] * 5)

    def test_whole_numbers_in_a_list(self):
        for calls in BOTH:
            answered = auction.answers(flat(calls))
            self.assertIs(type(answered), list)
            self.assertEqual({type(number) for number in answered}, {int})
            self.assertEqual(len(split(answered)), len(calls))

    def test_only_lists_have_a_length_ahead(self):
        sizes = [len(row) for row in ask(new([1, 1, 1]), submit(0, [2, 2, 2]), CLOSE, RESULT, MINIMUM, MAXIMUM, TOTAL,
                                         check([1, 1, 1]), check([0, 1, 1]), demand(0, [1, 1, 1]))]
        self.assertEqual(sizes, [1, 2, 2, 11, 5, 5, 2, 2, 4, 5])
        sizes = [len(row) for row in ask(new([1, 1, 1]), submit(0, [3, 0, 0]), submit(1, [3, 0, 0]), CLOSE,
                                         overdemanded([1, 1, 1]), overdemanded([3, 1, 1]), CLOCK,
                                         hypothetical(0, [2, 2, 2]), utility(0, [2, 2, 2]), truthful(0, [2, 2, 2]),
                                         total_without(0), SUBMITTED, BIDS, SUMMARY)]
        self.assertEqual(sizes[4:], [3, 2, 1 + 3 + 4, 3, 2, 2, 2, 1 + 5, 1 + 15, 1 + 5])

    def test_what_is_handed_in_stays_as_it_was(self):
        for calls in BOTH:
            handed_in = flat(calls)
            auction.answers(handed_in)
            self.assertEqual(handed_in, flat(calls))

    def test_what_is_handed_in_is_not_changed_for_a_while_either(self):
        for calls in BOTH:
            self.assertEqual(auction.answers(Unchanging(flat(calls))), auction.answers(flat(calls)))

    def test_a_second_time_is_like_the_first(self):
        for calls in BOTH:
            handed_in = flat(calls)
            first = auction.answers(handed_in)
            self.assertEqual(auction.answers(handed_in), first)
            self.assertEqual(auction.answers([2, 15, 17]), [1, -2, 1, -2, 1, -2])
            self.assertEqual(auction.answers(handed_in), first)

    def test_what_is_given_back_is_nobody_elses(self):
        for calls in BOTH:
            first = auction.answers(flat(calls))
            kept = list(first)
            first.clear()
            self.assertEqual(auction.answers(flat(calls)), kept)


class LargestRequestTest(unittest.TestCase):

    SECONDS = 5

    def ask_in_time(self, *calls):
        start = time.process_time()
        rows = ask(*calls)
        self.assertLess(time.process_time() - start, self.SECONDS)
        return rows

    def expect_twelve(self, costly, expected, reserves, bids):
        """Twelve costly calls, and as many of the others as there is room for, each kind in turn."""
        prices = [reserves, [59] * 4, [60] * 4, [1000] * 4]
        others = [call for i in range(5) for call in (
            overdemanded(prices[i % 4]), total_without(i), demand(i, prices[i % 4]), BIDS, SUBMITTED, SUMMARY,
            overdemanded(prices[3 - i % 4]), total_without(4 - i))] + [SUMMARY]
        calls = [new(reserves)] + [submit(i, row) for i, row in enumerate(bids)] + [CLOSE]
        rows = self.ask_in_time(*calls, *[costly] * 12, *others)
        self.assertEqual(len(rows), 60)
        self.assertEqual(rows[7:19], [expected] * 12)
        self.assertEqual([row[0] for row in rows], [0] * 60)

    def test_twelve_of_each_costly_call(self):
        bids = [[60] * 4] * 5
        for costly, fields in ((RESULT, [0, 60, 1, 60, 2, 60, 3, 60, -1, 0]), (MINIMUM, [4] + [60] * 4),
                               (MAXIMUM, [4] + [60] * 4), (TOTAL, [240]), (check([60] * 4), [1]),
                               (CLOCK, [60] + [15] * 60 + [4] + [60] * 4), (hypothetical(4, [60] * 4), [-1, 0]),
                               (utility(0, [0] * 4), [-60]), (truthful(4, [60] * 4), [0])):
            self.expect_twelve(costly, [0] + fields, [0] * 4, bids)

    def test_twelve_long_clocks(self):
        bids = [[60, 0, 0, 0], [60, 0, 0, 0], [0, 60, 0, 0], [0, 60, 0, 0], [0, 0, 60, 60]]
        self.expect_twelve(CLOCK, [0, 120] + [1] * 60 + [2] * 60 + [4, 60, 60, 0, 0], [0] * 4, bids)

    def test_twelve_different_costly_calls(self):
        bids = [[60, 47, 0, 13], [58, 60, 31, 2], [0, 59, 60, 44], [29, 0, 57, 60], [60, 60, 59, 58]]
        calls = [new([0] * 4)] + [submit(i, row) for i, row in enumerate(bids)] + [CLOSE]
        calls += [RESULT, MINIMUM, MAXIMUM, TOTAL, check([0] * 4), CLOCK, hypothetical(0, bids[1]), utility(1, bids[2]),
                  truthful(2, bids[3]), hypothetical(3, bids[4]), truthful(4, bids[0]), CLOCK]
        calls += [[overdemanded([0, 20, 40, 60]), total_without(3)][k % 2] for k in range(41)]
        rows = self.ask_in_time(*calls)
        self.assertEqual([row[0] for row in rows], [0] * 60)
        self.assertEqual(rows[12][-4:], rows[8][-4:])
        self.assertEqual(rows[12], rows[18])
        self.assertEqual(rows[19:21] * 20, rows[19:59])

    def test_sixty_auctions(self):
        self.assertEqual(self.ask_in_time(*[new([k] * 4) for k in range(60)]), [[0]] * 60)

    def test_sixty_calls(self):
        calls = [new([1, 2, 3, 4])] + [submit(i % 5, [60, 0, 60, 0]) for i in range(30)] + [CLOSE]
        calls += [RESULT, MINIMUM, MAXIMUM, TOTAL] * 2 + [check([1, 2, 3, 4])] * 4
        calls += [demand(i % 5, [1000] * 4) for i in range(60 - len(calls))]
        answered = self.ask_in_time(*calls)
        self.assertEqual(len(answered), 60)
        self.assertEqual([row[1] for row in answered[1:31]], [0] * 5 + [1] * 25)
        self.assertEqual(answered[31], [0, 5])
        self.assertEqual(answered[32:36], answered[36:40])
        self.assertEqual(answered[44:], [[0, 1, -1]] * 16)

    def test_sixty_calls_of_the_longest_lists(self):
        self.assertEqual(ask(*[submit(FAR, [-FAR] * 10)] * 60), [[-1]] * 60)
        self.assertEqual(ask(*[new([0] * 10), demand(-1, [FAR] * 10)] * 30), [[-1]] * 60)
        self.assertEqual(ask(*[hypothetical(FAR, [FAR] * 10)] * 12, *[overdemanded([-FAR] * 10)] * 48), [[-1]] * 60)


if __name__ == "__main__":
    unittest.main()
