"""Minimum and maximum prices, demand sets, and what keeps prices from being equilibrium prices."""

from sealedlots.matching import NONE, maximum_value


def minimum_prices(reserves, bids):
    """For each lot: how much larger the total value would be with a second identical lot."""
    total = maximum_value(reserves, bids)
    prices = []
    for lot, reserve in enumerate(reserves):
        more_bids = [row + [row[lot]] for row in bids]
        prices.append(maximum_value(reserves + [reserve], more_bids) - total)
    return prices


def maximum_prices(reserves, bids):
    """For each lot: how much smaller the total value would be without it."""
    total = maximum_value(reserves, bids)
    prices = []
    for lot in range(len(reserves)):
        fewer_bids = [without(row, lot) for row in bids]
        prices.append(total - maximum_value(without(reserves, lot), fewer_bids))
    return prices


def without(row, at):
    """A copy of row that lacks what stands at this place."""
    return row[:at] + row[at + 1:]


def demand_set(row, prices):
    """The demand set of a bidder who bids row: NONE if it is in it, then lots in ascending order."""
    utilities = [bid - price for bid, price in zip(row, prices)]
    most = max(utilities)
    if most < 0:
        return [NONE]
    lots = [lot for lot, utility in enumerate(utilities) if utility == most]
    if most == 0:
        return [NONE] + lots
    return lots


def first_wrong_lot(reserves, allocation, prices):
    """The first lot priced below its reserve, or unsold at another price than its reserve; else NONE."""
    for lot, reserve in enumerate(reserves):
        if prices[lot] < reserve:
            return lot
        if prices[lot] != reserve and lot not in allocation:
            return lot
    return NONE


def first_discontent_bidder(bids, allocation, prices):
    """The first bidder who does not get something of the demand set; else NONE."""
    for i, row in enumerate(bids):
        if allocation[i] not in demand_set(row, prices):
            return i
    return NONE
