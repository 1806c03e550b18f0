"""The calls 9 to 17 only tell: what is answered behind them is answered as if they had not been there."""

import unittest

from tests.helpers import (
    BIDS, CLOCK, CLOSE, FAR, MAXIMUM, MINIMUM, RESULT, SUBMITTED, SUMMARY, TOTAL, ask, check, demand, hypothetical, new,
    overdemanded, submit, total_without, truthful, utility)

TELLING = [
    overdemanded([2, 0]), overdemanded([60, 60]), CLOCK, hypothetical(1, [60, 60]), hypothetical(4, [60, 60]),
    hypothetical(0, [0, 0]), utility(0, [0, 60]), utility(4, [60, 0]), truthful(1, [60, 60]), truthful(4, [60, 60]),
    truthful(0, [0, 0]), total_without(0), total_without(1), total_without(4), SUBMITTED, BIDS, SUMMARY]
REFUSED = [
    overdemanded([]), overdemanded([0, FAR]), hypothetical(0, [60]), hypothetical(5, [60, 60]), utility(0, [61, 0]),
    utility(-1, [0, 0]), truthful(0, [60] * 10), truthful(FAR, [60, 60]), total_without(-FAR), total_without(5)]

# An auction, some of what can be asked behind it, and another auction.
COURSE = [
    new([2, 0]), submit(0, [10, 6]), submit(1, [9, 1]), submit(0, [10, 7]), CLOSE,
    RESULT, MINIMUM, MAXIMUM, TOTAL, check([3, 0]), CLOCK, BIDS, SUBMITTED, SUMMARY, demand(0, [3, 0]),
    hypothetical(1, [11, 1]), truthful(1, [9, 1]), total_without(0), overdemanded([2, 0]), CLOSE,
    new([5, 6]), submit(4, [9, 9]), SUBMITTED, CLOSE, RESULT, BIDS]


class NoChangeTest(unittest.TestCase):

    def expect_no_change(self, at, between):
        """The course with calls between its own, ahead of the one at this place."""
        answered = ask(*COURSE[:at], *between, *COURSE[at:])
        self.assertEqual(answered[:at] + answered[at + len(between):], ask(*COURSE), (at, between))

    def test_each_call_at_each_place(self):
        for at in range(len(COURSE) + 1):
            for call in TELLING + REFUSED:
                self.expect_no_change(at, [call])
                self.expect_no_change(at, [call, call])

    def test_many_at_once(self):
        between = [call for call in TELLING + REFUSED if call[0] not in (10, 11, 12, 13)] * 2
        for at in range(len(COURSE) + 1):
            self.expect_no_change(at, between)

    def test_a_call_is_answered_alike_behind_all_others(self):
        before = COURSE[:5]
        for call in TELLING:
            alone = ask(*before, call)[-1]
            for other in TELLING:
                self.assertEqual(ask(*before, other, call, other, call)[6::2], [alone] * 2, (other, call))

    def test_hypothetical_bids_are_not_submitted(self):
        rows = ask(*COURSE[:5], hypothetical(4, [60, 60]), truthful(3, [60, 60]), SUBMITTED, BIDS, RESULT)
        self.assertEqual(rows[7:], [[0, 1, 1, 0, 0, 0], [0, 10, 7, 9, 1] + [-1] * 6,
                                    [0, 1, 0, 0, 3] + [-1, 0] * 3])


if __name__ == "__main__":
    unittest.main()
