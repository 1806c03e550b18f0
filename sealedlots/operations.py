"""The operations: each answers the fields behind the 0 of a call that is not refused."""

from sealedlots.matching import NONE, maximum_value, returned_allocation
from sealedlots.pricing import demand_set, first_discontent_bidder, first_wrong_lot, maximum_prices, minimum_prices


def new_auction(auction, call):
    """Operation 0: starts a new auction."""
    auction.begin(call.row)
    return []


def submit_bid(auction, call):
    """Operation 1: tells whether earlier bids are replaced."""
    replaced = auction.has_submitted(call.bidder)
    auction.submit(call.bidder, call.row)
    return [int(replaced)]


def close_auction(auction, call):
    """Operation 2: tells how many bidders submitted bids."""
    auction.shut()
    return [auction.how_many_submitted()]


def get_result(auction, call):
    """Operation 3: for each bidder the lot and the payment."""
    bids = auction.counted_bids()
    prices = minimum_prices(auction.reserves, bids)
    fields = []
    for lot in returned_allocation(auction.reserves, bids):
        fields.append(lot)
        fields.append(0 if lot == NONE else prices[lot])
    return fields


def get_minimum_prices(auction, call):
    """Operation 4: the list of the minimum prices."""
    return with_length(minimum_prices(auction.reserves, auction.counted_bids()))


def get_maximum_prices(auction, call):
    """Operation 5: the list of the maximum prices."""
    return with_length(maximum_prices(auction.reserves, auction.counted_bids()))


def get_total_value(auction, call):
    """Operation 6: the total value."""
    return [maximum_value(auction.reserves, auction.counted_bids())]


def check_prices(auction, call):
    """Operation 7: 1 for equilibrium prices, else 0 and what is wrong with them."""
    bids = auction.counted_bids()
    allocation = returned_allocation(auction.reserves, bids)
    lot = first_wrong_lot(auction.reserves, allocation, call.row)
    if lot != NONE:
        return [0, 1, lot]
    bidder = first_discontent_bidder(bids, allocation, call.row)
    if bidder != NONE:
        return [0, 2, bidder]
    return [1]


def get_demand_set(auction, call):
    """Operation 8: the list of what a bidder demands."""
    return with_length(demand_set(auction.counted_bids()[call.bidder], call.row))


def with_length(row):
    """A row as the document's lists are answered."""
    return [len(row)] + row


OPERATIONS = {
    0: new_auction,
    1: submit_bid,
    2: close_auction,
    3: get_result,
    4: get_minimum_prices,
    5: get_maximum_prices,
    6: get_total_value,
    7: check_prices,
    8: get_demand_set,
}


def perform(auction, call):
    """Does a call that is not refused, and answers its fields."""
    return OPERATIONS[call.number](auction, call)
