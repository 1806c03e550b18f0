"""The error codes, and the order in which they are checked."""

from sealedlots.state import BIDDERS

OUT_OF_RANGE = -1
NO_AUCTION = -2
NOT_CLOSED = -5
CLOSED = -6
WRONG_LENGTH = -7

NEW_AUCTION = 0
MOST_LOTS = 4

# By the number of the operation.
ONLY_BEFORE_CLOSING = (1, 2)
ONLY_AFTER_CLOSING = (3, 4, 5, 6, 7, 8, 9, 10, 11, 12, 13, 14, 16)
LARGEST_IN_ROW = {0: 60, 1: 60, 7: 1000, 8: 1000, 9: 1000, 11: 60, 12: 60, 13: 60}


def first_refusal(auction, call):
    """The code of the first error that holds, or 0."""
    if bidder_out_of_range(call) or row_out_of_range(call):
        return OUT_OF_RANGE
    # What follows is about the auction that is there, and a new one replaces it.
    if call.number == NEW_AUCTION:
        return 0
    if auction.reserves is None:
        return NO_AUCTION
    if call.number in ONLY_AFTER_CLOSING and not auction.closed:
        return NOT_CLOSED
    if call.number in ONLY_BEFORE_CLOSING and auction.closed:
        return CLOSED
    if call.row is not None and len(call.row) != len(auction.reserves):
        return WRONG_LENGTH
    return 0


def bidder_out_of_range(call):
    """Whether the call names a bidder who is not there."""
    return call.bidder is not None and not 0 <= call.bidder < BIDDERS


def row_out_of_range(call):
    """Whether the call has a list that no auction could take."""
    if call.row is None:
        return False
    # Other lists may be empty here: they are compared with the number of lots later.
    if call.number == NEW_AUCTION and len(call.row) == 0:
        return True
    if len(call.row) > MOST_LOTS:
        return True
    largest = LARGEST_IN_ROW[call.number]
    return any([not 0 <= number <= largest for number in call.row])
