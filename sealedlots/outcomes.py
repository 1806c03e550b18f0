"""Who gets which lot for how much, and what that is worth to a bidder.

An outcome is what one bidder gets: a tuple of the lot or NONE and the payment.
"""

from sealedlots.matching import NONE, returned_allocation
from sealedlots.pricing import minimum_prices


def outcomes(reserves, bids):
    """The outcome of each bidder."""
    prices = minimum_prices(reserves, bids)
    return [(lot, payment_for(lot, prices)) for lot in returned_allocation(reserves, bids)]


def payment_for(lot, prices):
    """What the bidder who gets the lot or NONE pays."""
    if lot == NONE:
        return 0
    return prices[lot]


def utility_of(outcome, values):
    """What is left to a bidder of these true values behind the payment."""
    lot = outcome[0]
    if lot == NONE:
        return 0
    return values[lot] - outcome[1]
