"""Every error code, the order in which they are checked, and that a refused call changes nothing."""

import unittest

from tests.helpers import (
    CLOSE, FAR, MAXIMUM, MINIMUM, RESULT, TOTAL, ask, auction, check, demand, last, new, submit)

OUTSIDE_BIDDERS = [-FAR, 1 - FAR, -1000, -6, -5, -2, -1, 5, 6, 1000, FAR - 1, FAR]
OUTSIDE_60 = [-FAR, 1 - FAR, -61, -60, -2, -1, 61, 62, 1000, FAR - 1, FAR]
OUTSIDE_1000 = [-FAR, 1 - FAR, -1001, -1000, -2, -1, 1001, 1002, FAR - 1, FAR]

QUERIES = [RESULT, MINIMUM, MAXIMUM, TOTAL]

# For each call with a list of up to four numbers: how it is made, and what stands outside its numbers' range.
WITH_LIST = [
    (lambda row: submit(1, row), OUTSIDE_60),
    (check, OUTSIDE_1000),
    (lambda row: demand(1, row), OUTSIDE_1000),
]


def before(made):
    """Calls that end at the state in which made is not refused, if its arguments are right."""
    calls = [new([3, 4]), submit(2, [9, 9])]
    return calls if made([0, 0])[0] == 1 else calls + [CLOSE]


class OutOfRangeTest(unittest.TestCase):

    def test_reserves_of_a_wrong_length(self):
        for length in (0, 5, 6, 7, 8, 9, 10):
            self.assertEqual(ask(new([1] * length)), [[-1]], length)

    def test_reserves_outside_their_range(self):
        for number in OUTSIDE_60:
            for lots in range(1, 5):
                for at in range(lots):
                    reserves = [30] * lots
                    reserves[at] = number
                    self.assertEqual(ask(new(reserves)), [[-1]], reserves)
            self.assertEqual(ask(new([number] * 10)), [[-1]])

    def test_bidders_outside_their_range(self):
        for i in OUTSIDE_BIDDERS:
            self.assertEqual(last(new([3, 4]), submit(i, [1, 1])), [-1], i)
            self.assertEqual(last(new([3, 4]), CLOSE, demand(i, [1, 1])), [-1], i)

    def test_bidders_at_the_ends_of_their_range(self):
        for i in (0, 4):
            self.assertEqual(last(new([3]), submit(i, [1])), [0, 0])
            self.assertEqual(last(new([3]), CLOSE, demand(i, [1])), [0, 1, -1])

    def test_numbers_in_lists_outside_their_range(self):
        for made, outside in WITH_LIST:
            for number in outside:
                for row in ([number, 0], [0, number], [number, number]):
                    self.assertEqual(last(*before(made), made(row)), [-1], row)

    def test_numbers_in_lists_at_the_ends_of_their_range(self):
        for row in ([0, 60], [60, 0]):
            self.assertEqual(last(new([3, 4]), submit(1, row)), [0, 0])
        for row in ([0, 1000], [1000, 0]):
            self.assertEqual(last(new([3, 4]), CLOSE, check(row)), [0, 0, 1, 0])
            self.assertEqual(last(new([3, 4]), CLOSE, demand(1, row)), [0, 1, -1])

    def test_lists_that_are_too_long_by_the_words(self):
        for made, _ in WITH_LIST:
            for length in range(5, 11):
                self.assertEqual(last(*before(made), made([0] * length)), [-1], length)


class OutOfRangeComesFirstTest(unittest.TestCase):

    def wrong_calls(self):
        calls = []
        for made, outside in WITH_LIST:
            calls += [made([0] * 5), made([1] * 10), made([outside[0]]), made([0, outside[-1], 0]), made([0, 0, 0, -1])]
        for i in (-1, 5, FAR):
            calls += [submit(i, [0, 0]), submit(i, []), submit(i, [61]), demand(i, [0, 0]), demand(i, []),
                      demand(i, [1001]), demand(i, [0] * 10), submit(i, [0] * 10)]
        return calls

    def test_ahead_of_no_auction(self):
        for call in self.wrong_calls():
            self.assertEqual(last(call), [-1], call)

    def test_ahead_of_not_closed_and_wrong_length(self):
        for call in self.wrong_calls():
            self.assertEqual(last(new([3, 4]), call), [-1], call)

    def test_ahead_of_closed_and_wrong_length(self):
        for call in self.wrong_calls():
            self.assertEqual(last(new([3, 4]), CLOSE, call), [-1], call)


class NoAuctionTest(unittest.TestCase):

    def test_every_call_but_new_auction(self):
        for call in [submit(0, [0]), CLOSE, *QUERIES, check([0]), demand(0, [0])]:
            self.assertEqual(ask(call, call), [[-2], [-2]], call)

    def test_lists_of_any_length_that_is_in_range(self):
        for made, _ in WITH_LIST:
            for length in range(5):
                self.assertEqual(last(made([0] * length)), [-2])

    def test_after_a_new_auction_that_failed(self):
        for wrong in (new([]), new([61]), new([0] * 5)):
            for call in [submit(0, [0]), CLOSE, *QUERIES, check([0]), demand(0, [0])]:
                self.assertEqual(ask(wrong, call), [[-1], [-2]])

    def test_an_auction_can_start_later(self):
        self.assertEqual(ask(CLOSE, TOTAL, new([5]), CLOSE, TOTAL), [[-2], [-2], [0], [0, 0], [0, 5]])


class NotClosedTest(unittest.TestCase):

    def test_every_call_that_needs_the_bids(self):
        for call in [*QUERIES, check([3, 4]), demand(0, [3, 4])]:
            self.assertEqual(ask(new([3, 4]), call, submit(0, [9, 9]), call, CLOSE)[1::2], [[-5], [-5]], call)

    def test_ahead_of_a_wrong_length(self):
        for length in (0, 1, 3, 4):
            for call in (check([0] * length), demand(4, [0] * length)):
                self.assertEqual(last(new([3, 4]), call), [-5], call)

    def test_again_after_a_new_auction(self):
        for call in [*QUERIES, check([3]), demand(0, [3])]:
            self.assertEqual(last(new([3, 4]), CLOSE, new([3]), call), [-5], call)


class ClosedTest(unittest.TestCase):

    def test_no_bids_behind_closing(self):
        for i in range(5):
            self.assertEqual(last(new([3, 4]), submit(2, [5, 5]), CLOSE, submit(i, [1, 1])), [-6])

    def test_ahead_of_a_wrong_length(self):
        for length in (0, 1, 3, 4):
            self.assertEqual(last(new([3, 4]), CLOSE, submit(0, [1] * length)), [-6])

    def test_closed_once(self):
        self.assertEqual(ask(new([3]), CLOSE, CLOSE, CLOSE), [[0], [0, 0], [-6], [-6]])


class WrongLengthTest(unittest.TestCase):

    def test_each_length_against_each_number_of_lots(self):
        for lots in range(1, 5):
            for length in range(11):
                expected = [0] if length == lots else [-7] if length <= 4 else [-1]
                row = [0] * length
                with self.subTest(lots=lots, length=length):
                    self.assertEqual(last(new([0] * lots), submit(4, row))[:1], expected)
                    self.assertEqual(last(new([0] * lots), CLOSE, check(row))[:1], expected)
                    self.assertEqual(last(new([0] * lots), CLOSE, demand(4, row))[:1], expected)

    def test_against_the_lots_of_the_auction_that_is_there_now(self):
        rows = ask(new([0, 0]), new([0]), submit(0, [1, 1]), submit(0, [1]), CLOSE, check([0, 0]), demand(0, [0, 0]))
        self.assertEqual(rows, [[0], [0], [-7], [0, 0], [0, 1], [-7], [-7]])


class NothingChangesTest(unittest.TestCase):

    TAKING_BIDS = [new([3, 4]), submit(1, [9, 9]), submit(0, [8, 5])]
    CLOSED = auction([3, 4], [[8, 5], [9, 9]])
    REST = [*QUERIES, check([4, 4]), check([8, 8]), demand(0, [3, 3])]

    ALWAYS_WRONG = [
        new([]), new([61]), new([-1, 3]), new([1, 2, 3, FAR]), new([0] * 5), new([0] * 10),
        submit(5, [60, 60]), submit(-1, [60, 60]), submit(0, [60, 61]), submit(0, [-1, 60]), submit(0, [60] * 5),
        check([-1, 0]), check([1001]), check([0] * 5), demand(5, [0, 0]), demand(0, [1001, 0]), demand(0, [0] * 10)]
    WRONG_AHEAD = [CLOSE, *QUERIES, submit(0, [60, 60]), check([3, 4]), demand(0, [3, 4])]
    WRONG_WHILE_TAKING_BIDS = [
        *QUERIES, check([3, 4]), check([]), demand(0, [3, 4]), demand(0, []),
        submit(0, []), submit(0, [60]), submit(1, [60, 60, 60]), submit(2, [60] * 4), submit(2, [])]
    WRONG_WHEN_CLOSED = [
        CLOSE, submit(0, [60, 60]), submit(2, [60, 60]), submit(0, []), submit(0, [60]),
        check([]), check([3]), check([3, 4, 5]), demand(0, []), demand(0, [3, 4, 5, 6])]

    def test_wrong_calls_in_every_state(self):
        states = [([], self.TAKING_BIDS + [CLOSE] + self.REST, self.WRONG_AHEAD),
                  (self.TAKING_BIDS, [submit(0, [8, 5]), submit(3, [1, 2]), CLOSE] + self.REST,
                   self.WRONG_WHILE_TAKING_BIDS),
                  (self.CLOSED, self.REST, self.WRONG_WHEN_CLOSED)]
        for first, behind, wrong_now in states:
            expected = ask(*first, *behind)
            for wrong in self.ALWAYS_WRONG + wrong_now:
                answered = ask(*first, wrong, *behind)
                self.assertLess(answered[len(first)][0], 0, wrong)
                self.assertEqual(len(answered[len(first)]), 1, wrong)
                self.assertEqual(answered[:len(first)] + answered[len(first) + 1:], expected, wrong)

    def test_a_refused_bid_does_not_count(self):
        rows = ask(new([3]), submit(0, [61]), submit(0, [1, 1]), submit(0, []), submit(0, [7]), CLOSE,
                   submit(1, [9]), RESULT)
        self.assertEqual(rows, [[0], [-1], [-7], [-7], [0, 0], [0, 1], [-6], [0, 0, 3] + [-1, 0] * 4])

    def test_a_new_auction_that_fails_leaves_the_old_one(self):
        rows = ask(new([3]), submit(0, [7]), new([61]), submit(0, [8]), new([]), CLOSE, new([0] * 5), TOTAL, CLOSE)
        self.assertEqual(rows, [[0], [0, 0], [-1], [0, 1], [-1], [0, 1], [-1], [0, 8], [-6]])


if __name__ == "__main__":
    unittest.main()
