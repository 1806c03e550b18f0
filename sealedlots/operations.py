"""The operations: each answers the fields behind the 0 of a call that is not refused."""

from sealedlots.clock import NO_SET, first_overdemanded_set, run_clock
from sealedlots.matching import NONE, maximum_value, returned_allocation
from sealedlots.outcomes import outcomes, utility_of
from sealedlots.pricing import (
    demand_set, first_discontent_bidder, first_wrong_lot, maximum_prices, minimum_prices, without)
from sealedlots.state import BIDDERS


def new_auction(auction, call):
    """Operation 0: starts a new auction."""
    auction.begin(call.row)
    return []


def submit_bid(auction, call):
    """Operation 1: tells whether earlier bids are replaced."""
    replaced = auction.has_submitted(call.bidder)
    auction.submit(call.bidder, call.row)
    return [int(replaced)]


def close_auction(auction, call):
    """Operation 2: tells how many bidders submitted bids."""
    auction.shut()
    return [auction.how_many_submitted()]


def get_result(auction, call):
    """Operation 3: for each bidder the lot and the payment."""
    fields = []
    for outcome in outcomes(auction.reserves, auction.counted_bids()):
        fields.extend(outcome)
    return fields


def get_minimum_prices(auction, call):
    """Operation 4: the list of the minimum prices."""
    return with_length(minimum_prices(auction.reserves, auction.counted_bids()))


def get_maximum_prices(auction, call):
    """Operation 5: the list of the maximum prices."""
    return with_length(maximum_prices(auction.reserves, auction.counted_bids()))


def get_total_value(auction, call):
    """Operation 6: the total value."""
    return [maximum_value(auction.reserves, auction.counted_bids())]


def check_prices(auction, call):
    """Operation 7: 1 for equilibrium prices, else 0 and what is wrong with them."""
    bids = auction.counted_bids()
    allocation = returned_allocation(auction.reserves, bids)
    lot = first_wrong_lot(auction.reserves, allocation, call.row)
    if lot != NONE:
        return [0, 1, lot]
    bidder = first_discontent_bidder(bids, allocation, call.row)
    if bidder != NONE:
        return [0, 2, bidder]
    return [1]


def get_demand_set(auction, call):
    """Operation 8: the list of what a bidder demands."""
    return with_length(demand_set(auction.counted_bids()[call.bidder], call.row))


def get_overdemanded_set(auction, call):
    """Operation 9: 1 and the first overdemanded set, or 0."""
    members = first_overdemanded_set(auction.counted_bids(), call.row)
    if members == NO_SET:
        return [0]
    return [1, members]


def get_clock(auction, call):
    """Operation 10: the list of the sets of all rounds, and the list of the prices at the end."""
    fields = []
    for row in run_clock(auction.reserves, auction.counted_bids()):
        fields.extend(with_length(row))
    return fields


def get_hypothetical_result(auction, call):
    """Operation 11: the lot and the payment of a bidder who had bid otherwise."""
    return list(hypothetical_outcome(auction, call))


def get_utility(auction, call):
    """Operation 12: what the result is worth to a bidder of these true values."""
    outcome = outcomes(auction.reserves, auction.counted_bids())[call.bidder]
    return [utility_of(outcome, call.row)]


def get_truthful_utility(auction, call):
    """Operation 13: what the result of the true values as bids is worth to their bidder."""
    return [utility_of(hypothetical_outcome(auction, call), call.row)]


def hypothetical_outcome(auction, call):
    """The outcome of the call's bidder if the call's row were the bids."""
    return outcomes(auction.reserves, auction.counted_bids_with(call.bidder, call.row))[call.bidder]


def get_total_without(auction, call):
    """Operation 14: the total value of the other bidders' auction."""
    return [maximum_value(auction.reserves, without(auction.counted_bids(), call.bidder))]


def list_submitted(auction, call):
    """Operation 15: for each bidder whether there are bids."""
    return [int(auction.has_submitted(i)) for i in range(BIDDERS)]


def list_bids(auction, call):
    """Operation 16: all bids, bidder by bidder."""
    fields = []
    for row in auction.counted_bids():
        fields.extend(row)
    return fields


def summary(auction, call):
    """Operation 17: the number of lots, their reserves, and whether the auction is closed."""
    # Not a list in the document's sense: the number of lots is a field of its own.
    return [len(auction.reserves)] + auction.reserves + [int(auction.closed)]


def with_length(row):
    """A row as the document's lists are answered."""
    return [len(row)] + row


OPERATIONS = {
    0: new_auction,
    1: submit_bid,
    2: close_auction,
    3: get_result,
    4: get_minimum_prices,
    5: get_maximum_prices,
    6: get_total_value,
    7: check_prices,
    8: get_demand_set,
    9: get_overdemanded_set,
    10: get_clock,
    11: get_hypothetical_result,
    12: get_utility,
    13: get_truthful_utility,
    14: get_total_without,
    15: list_submitted,
    16: list_bids,
    17: summary,
}


def perform(auction, call):
    """Does a call that is not refused, and answers its fields."""
    return OPERATIONS[call.number](auction, call)
