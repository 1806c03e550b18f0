"""Every error code, the order in which they are checked, and that a refused call changes nothing."""

import unittest

from tests.helpers import (
    BIDS, CLOCK, CLOSE, FAR, MAXIMUM, MINIMUM, RESULT, SUBMITTED, SUMMARY, TOTAL, ask, auction, check, demand,
    hypothetical, last, new, overdemanded, submit, total_without, truthful, utility)

OUTSIDE_BIDDERS = [-FAR, 1 - FAR, -1000, -6, -5, -2, -1, 5, 6, 1000, FAR - 1, FAR]
OUTSIDE_60 = [-FAR, 1 - FAR, -61, -60, -2, -1, 61, 62, 1000, FAR - 1, FAR]
OUTSIDE_1000 = [-FAR, 1 - FAR, -1001, -1000, -2, -1, 1001, 1002, FAR - 1, FAR]

# Calls without arguments that need the bids, and those that need an auction alone.
AFTER_CLOSING = [RESULT, MINIMUM, MAXIMUM, TOTAL, CLOCK, BIDS]
ALWAYS = [SUBMITTED, SUMMARY]

# What takes a bidder and a list: how it is made, and what stands outside its numbers' range.
WITH_BIDDER_AND_LIST = [
    (submit, OUTSIDE_60),
    (demand, OUTSIDE_1000),
    (hypothetical, OUTSIDE_60),
    (utility, OUTSIDE_60),
    (truthful, OUTSIDE_60),
]

# What takes a list alone, but for reserves.
WITH_LIST_ALONE = [
    (check, OUTSIDE_1000),
    (overdemanded, OUTSIDE_1000),
]


def for_bidder(made, i):
    return lambda row: made(i, row)


# Each call with a list of up to four numbers, made of the list.
WITH_LIST = WITH_LIST_ALONE + [(for_bidder(made, 1), outside) for made, outside in WITH_BIDDER_AND_LIST]


def right_calls(lots, i=1):
    """Each call but new_auction, with arguments that an auction of so many lots takes."""
    row = [0] * lots
    calls = [made(i, row) for made, _ in WITH_BIDDER_AND_LIST] + [made(row) for made, _ in WITH_LIST_ALONE]
    return calls + [total_without(i), CLOSE] + AFTER_CLOSING + ALWAYS


def needs_closing(call):
    return call[0] not in (0, 1, 2, 15, 17)


def ready_for(call, reserves=(3, 4)):
    """Calls that end at a state in which the call is not refused, if its arguments are right."""
    calls = [new(reserves), submit(2, [9] * len(reserves))]
    return calls + [CLOSE] if needs_closing(call) else calls


def answered_when_ready(call, reserves=(3, 4)):
    return last(*ready_for(call, reserves), call)


class RightCallsTest(unittest.TestCase):
    """What the other tests are held against."""

    def test_every_call_is_there(self):
        self.assertEqual(sorted(call[0] for call in right_calls(2)), list(range(1, 18)))

    def test_none_is_refused(self):
        for lots in range(1, 5):
            for i in (0, 4):
                for call in right_calls(lots, i):
                    self.assertEqual(answered_when_ready(call, [3] * lots)[0], 0, call)


class OutOfRangeTest(unittest.TestCase):

    def test_reserves_of_a_wrong_length(self):
        for length in (0, 5, 6, 7, 8, 9, 10):
            self.assertEqual(ask(new([1] * length)), [[-1]], length)

    def test_reserves_outside_their_range(self):
        for number in OUTSIDE_60:
            for lots in range(1, 5):
                for at in range(lots):
                    reserves = [30] * lots
                    reserves[at] = number
                    self.assertEqual(ask(new(reserves)), [[-1]], reserves)
            self.assertEqual(ask(new([number] * 10)), [[-1]])

    def test_bidders_outside_their_range(self):
        for i in OUTSIDE_BIDDERS:
            for call in [made(i, [1, 1]) for made, _ in WITH_BIDDER_AND_LIST] + [total_without(i)]:
                self.assertEqual(answered_when_ready(call), [-1], call)

    def test_bidders_at_the_ends_of_their_range(self):
        for i in (0, 4):
            self.assertEqual(answered_when_ready(submit(i, [1]), [3]), [0, 0])
            self.assertEqual(answered_when_ready(demand(i, [1]), [3]), [0, 1, -1])
            self.assertEqual(answered_when_ready(hypothetical(i, [10]), [3]), [0, 0, 9])
            self.assertEqual(answered_when_ready(utility(i, [10]), [3]), [0, 0])
            self.assertEqual(answered_when_ready(truthful(i, [10]), [3]), [0, 1])
            self.assertEqual(answered_when_ready(total_without(i), [3]), [0, 9])

    def test_numbers_in_lists_outside_their_range(self):
        for made, outside in WITH_LIST:
            for number in outside:
                for row in ([number, 0], [0, number], [number, number]):
                    self.assertEqual(answered_when_ready(made(row)), [-1], made(row))

    def test_numbers_in_lists_at_the_ends_of_their_range(self):
        for row in ([0, 60], [60, 0]):
            self.assertEqual(answered_when_ready(submit(1, row)), [0, 0])
        for row in ([0, 1000], [1000, 0]):
            # The first lot whose price, of 0, is below its reserve.
            self.assertEqual(answered_when_ready(check(row)), [0, 0, 1, row.index(0)])
            self.assertEqual(answered_when_ready(demand(1, row)), [0, 1, -1])
            self.assertEqual(answered_when_ready(overdemanded(row)), [0, 0])
        # Bidder 2, who bids 9 for both, gets lot 0 for 3; if bidder 1 wants lot 0 too, it costs as much as lot 1.
        self.assertEqual(answered_when_ready(hypothetical(1, [60, 0])), [0, 0, 4])
        self.assertEqual(answered_when_ready(hypothetical(1, [0, 60])), [0, 1, 4])
        self.assertEqual(answered_when_ready(utility(2, [60, 0])), [0, 57])
        self.assertEqual(answered_when_ready(utility(2, [0, 60])), [0, -3])
        self.assertEqual(answered_when_ready(truthful(1, [60, 0])), [0, 56])
        self.assertEqual(answered_when_ready(truthful(1, [0, 60])), [0, 56])

    def test_lists_that_are_too_long_by_the_words(self):
        for made, _ in WITH_LIST:
            for length in range(5, 11):
                self.assertEqual(answered_when_ready(made([0] * length)), [-1], length)


class OutOfRangeComesFirstTest(unittest.TestCase):

    def wrong_calls(self):
        """Calls that are wrong in other ways too: in the length of the list, and in the state they are asked in."""
        calls = []
        for made, outside in WITH_LIST:
            calls += [made([0] * 5), made([1] * 10), made([outside[0]]), made([0, outside[-1], 0]), made([0, 0, 0, -1])]
        for i in (-FAR, -1, 5, FAR):
            for made, outside in WITH_BIDDER_AND_LIST:
                calls += [made(i, row) for row in ([0, 0], [], [0], [0] * 3, [outside[-1]], [0] * 10)]
            calls.append(total_without(i))
        return calls

    def test_ahead_of_no_auction(self):
        for call in self.wrong_calls():
            self.assertEqual(last(call), [-1], call)

    def test_ahead_of_not_closed_and_wrong_length(self):
        for call in self.wrong_calls():
            self.assertEqual(last(new([3, 4]), call), [-1], call)

    def test_ahead_of_closed_and_wrong_length(self):
        for call in self.wrong_calls():
            self.assertEqual(last(new([3, 4]), CLOSE, call), [-1], call)

    def test_a_right_bidder_with_a_wrong_list_and_the_other_way_round(self):
        for made, outside in WITH_BIDDER_AND_LIST:
            for call in (made(4, [outside[-1], 0]), made(5, [0, 0]), made(5, [outside[-1], 0])):
                self.assertEqual(answered_when_ready(call), [-1], call)


class NoAuctionTest(unittest.TestCase):

    def test_every_call_but_new_auction(self):
        for lots in range(1, 5):
            for call in right_calls(lots):
                self.assertEqual(ask(call, call), [[-2], [-2]], call)

    def test_lists_of_any_length_that_is_in_range(self):
        for made, _ in WITH_LIST:
            for length in range(5):
                self.assertEqual(last(made([0] * length)), [-2])

    def test_after_a_new_auction_that_failed(self):
        for wrong in (new([]), new([61]), new([0] * 5)):
            for call in right_calls(1):
                self.assertEqual(ask(wrong, call), [[-1], [-2]])

    def test_an_auction_can_start_later(self):
        rows = ask(CLOSE, TOTAL, CLOCK, SUMMARY, new([5]), SUMMARY, CLOSE, TOTAL)
        self.assertEqual(rows, [[-2], [-2], [-2], [-2], [0], [0, 1, 5, 0], [0, 0], [0, 5]])


class NotClosedTest(unittest.TestCase):

    def test_every_call_that_needs_the_bids(self):
        asked = [call for call in right_calls(2) if needs_closing(call)]
        self.assertEqual(len(asked), 13)
        for call in asked:
            rows = ask(new([3, 4]), call, submit(0, [9, 9]), call, CLOSE, call)
            self.assertEqual(rows[1:4:2], [[-5], [-5]], call)
            self.assertEqual(rows[5][0], 0, call)

    def test_ahead_of_a_wrong_length(self):
        for made, _ in WITH_LIST:
            for length in (0, 1, 3, 4):
                call = made([0] * length)
                if needs_closing(call):
                    self.assertEqual(last(new([3, 4]), call), [-5], call)

    def test_again_after_a_new_auction(self):
        for call in right_calls(1):
            if needs_closing(call):
                self.assertEqual(last(new([3, 4]), CLOSE, new([3]), call), [-5], call)

    def test_some_need_an_auction_alone(self):
        self.assertEqual(ask(new([3]), SUBMITTED, SUMMARY), [[0], [0, 0, 0, 0, 0, 0], [0, 1, 3, 0]])


class ClosedTest(unittest.TestCase):

    def test_no_bids_behind_closing(self):
        for i in range(5):
            self.assertEqual(last(new([3, 4]), submit(2, [5, 5]), CLOSE, submit(i, [1, 1])), [-6])

    def test_ahead_of_a_wrong_length(self):
        for length in (0, 1, 3, 4):
            self.assertEqual(last(new([3, 4]), CLOSE, submit(0, [1] * length)), [-6])

    def test_closed_once(self):
        self.assertEqual(ask(new([3]), CLOSE, CLOSE, CLOSE), [[0], [0, 0], [-6], [-6]])

    def test_no_other_call_is_refused_behind_closing(self):
        for call in right_calls(2):
            refused = call[0] in (1, 2)
            self.assertEqual(last(new([3, 4]), CLOSE, call)[0], -6 if refused else 0, call)


class WrongLengthTest(unittest.TestCase):

    def test_each_length_against_each_number_of_lots(self):
        for lots in range(1, 5):
            for length in range(11):
                expected = 0 if length == lots else -7 if length <= 4 else -1
                for made, _ in WITH_LIST:
                    answer = answered_when_ready(made([0] * length), [0] * lots)
                    self.assertEqual(answer[0], expected, (lots, length, made([])))
                    self.assertEqual(len(answer) == 1, expected < 0)

    def test_against_the_lots_of_the_auction_that_is_there_now(self):
        asked = [made([0, 0]) for made, _ in WITH_LIST if needs_closing(made([]))]
        rows = ask(new([0, 0]), new([0]), submit(0, [1, 1]), submit(0, [1]), CLOSE, *asked)
        self.assertEqual(rows, [[0], [0], [-7], [0, 0], [0, 1]] + [[-7]] * len(asked))


class NothingChangesTest(unittest.TestCase):

    TAKING_BIDS = [new([3, 4]), submit(1, [9, 9]), submit(0, [8, 5])]
    CLOSED = auction([3, 4], [[8, 5], [9, 9]])
    REST = [RESULT, MINIMUM, MAXIMUM, TOTAL, CLOCK, BIDS, SUBMITTED, SUMMARY, check([4, 4]), check([8, 8]),
            demand(0, [3, 3]), overdemanded([3, 3]), hypothetical(0, [9, 9]), utility(0, [9, 9]), truthful(4, [9, 9]),
            total_without(1)]

    def always_wrong(self):
        calls = [new([]), new([61]), new([-1, 3]), new([1, 2, 3, FAR]), new([0] * 5), new([0] * 10)]
        calls += [total_without(-1), total_without(5)]
        for made, outside in WITH_LIST:
            calls += [made([outside[0], 60]), made([60, outside[-1]]), made([60] * 5), made([60] * 10)]
        for made, _ in WITH_BIDDER_AND_LIST:
            calls += [made(5, [60, 60]), made(-1, [60, 60])]
        return calls

    def wrong_while_taking_bids(self):
        calls = [made([60] * length) for made, _ in WITH_LIST for length in (0, 1, 3, 4)]
        return calls + [call for call in right_calls(2) if needs_closing(call)]

    def wrong_when_closed(self):
        calls = [made([60] * length) for made, _ in WITH_LIST for length in (0, 1, 3, 4)]
        return calls + [CLOSE, submit(0, [60, 60]), submit(2, [60, 60])]

    def test_wrong_calls_in_every_state(self):
        states = [([], self.TAKING_BIDS + [CLOSE] + self.REST, right_calls(2)),
                  (self.TAKING_BIDS, [SUBMITTED, submit(0, [8, 5]), submit(3, [1, 2]), SUMMARY, CLOSE] + self.REST,
                   self.wrong_while_taking_bids()),
                  (self.CLOSED, self.REST, self.wrong_when_closed())]
        for first, behind, wrong_now in states:
            expected = ask(*first, *behind)
            for wrong in self.always_wrong() + wrong_now:
                answered = ask(*first, wrong, *behind)
                self.assertLess(answered[len(first)][0], 0, wrong)
                self.assertEqual(len(answered[len(first)]), 1, wrong)
                self.assertEqual(answered[:len(first)] + answered[len(first) + 1:], expected, wrong)

    def test_a_refused_bid_does_not_count(self):
        rows = ask(new([3]), submit(0, [61]), submit(0, [1, 1]), submit(0, []), submit(0, [7]), CLOSE,
                   submit(1, [9]), RESULT)
        self.assertEqual(rows, [[0], [-1], [-7], [-7], [0, 0], [0, 1], [-6], [0, 0, 3] + [-1, 0] * 4])

    def test_a_new_auction_that_fails_leaves_the_old_one(self):
        rows = ask(new([3]), submit(0, [7]), new([61]), submit(0, [8]), new([]), CLOSE, new([0] * 5), TOTAL, CLOSE)
        self.assertEqual(rows, [[0], [0, 0], [-1], [0, 1], [-1], [0, 1], [-1], [0, 8], [-6]])


if __name__ == "__main__":
    unittest.main()
