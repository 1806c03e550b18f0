"""The document's definitions, tried out case by case: slow, and with nothing in common with the program."""

import functools
import itertools


def counted(bids, lots):
    """The rows of all bidders, -1 for each lot where one submitted nothing."""
    return [[-1] * lots if row is None else list(row) for row in bids]


@functools.lru_cache(maxsize=None)
def allocations(bidders, lots):
    """All allocations, in the order that decides between equal ones; none is -1."""
    found = []
    # A number for none that is above all lots makes the plain order of tuples the document's order.
    for row in itertools.product(range(lots + 1), repeat=bidders):
        taken = [lot for lot in row if lot < lots]
        if len(taken) == len(set(taken)):
            found.append(tuple(-1 if lot == lots else lot for lot in row))
    return found


def value_of(allocation, reserves, bids):
    value = 0
    for i, lot in enumerate(allocation):
        if lot >= 0:
            value += bids[i][lot]
    for lot, reserve in enumerate(reserves):
        if lot not in allocation:
            value += reserve
    return value


def best(reserves, bids):
    """The maximum value and the first allocation that has it."""
    best_value, best_allocation = None, None
    for allocation in allocations(len(bids), len(reserves)):
        value = value_of(allocation, reserves, bids)
        if best_value is None or value > best_value:
            best_value, best_allocation = value, allocation
    return best_value, best_allocation


def minimum_prices(reserves, bids):
    total = best(reserves, bids)[0]
    prices = []
    for lot in range(len(reserves)):
        doubled = [row + [row[lot]] for row in bids]
        prices.append(best(reserves + [reserves[lot]], doubled)[0] - total)
    return prices


def maximum_prices(reserves, bids):
    total = best(reserves, bids)[0]
    prices = []
    for lot in range(len(reserves)):
        kept = [j for j in range(len(reserves)) if j != lot]
        prices.append(total - best([reserves[j] for j in kept], [[row[j] for j in kept] for row in bids])[0])
    return prices


def demand_set(row, prices):
    utility = {lot: bid - price for lot, (bid, price) in enumerate(zip(row, prices))}
    # None is a choice like the others, of utility 0, and -1 stands ahead of all lots.
    utility[-1] = 0
    return sorted(lot for lot in utility if utility[lot] == max(utility.values()))


def check(reserves, bids, allocation, prices):
    """The fields of check_prices."""
    lots = range(len(reserves))
    wrong = [j for j in lots if prices[j] < reserves[j] or (j not in allocation and prices[j] != reserves[j])]
    if wrong:
        return [0, 1, wrong[0]]
    discontent = [i for i, row in enumerate(bids) if allocation[i] not in demand_set(row, prices)]
    if discontent:
        return [0, 2, discontent[0]]
    return [1]


def equilibria(reserves, bids, highest):
    """All equilibrium prices up to the highest price."""
    allocation = best(reserves, bids)[1]
    ranges = itertools.product(range(highest + 1), repeat=len(reserves))
    return [prices for prices in ranges if check(reserves, bids, allocation, prices) == [1]]


def first_overdemanded(bids, prices):
    demands = [demand_set(row, prices) for row in bids]
    sets = range(1, 1 << len(prices))
    for members in sorted(sets, key=lambda number: (number.bit_count(), number)):
        inside = [d for d in demands if -1 not in d and all(members >> lot & 1 for lot in d)]
        if len(inside) > members.bit_count():
            return members
    return None


def clock(reserves, bids):
    """The sets of all rounds, and the prices at the end."""
    sets, prices = [], list(reserves)
    members = first_overdemanded(bids, prices)
    while members is not None:
        sets.append(members)
        prices = [price + (members >> lot & 1) for lot, price in enumerate(prices)]
        members = first_overdemanded(bids, prices)
    return sets, prices


def results(reserves, bids):
    """For each bidder the lot and the payment."""
    prices = minimum_prices(reserves, bids)
    return [(lot, 0 if lot == -1 else prices[lot]) for lot in best(reserves, bids)[1]]


def result_if(reserves, bids, i, row):
    """The lot and the payment of bidder i, if row were the bids of i."""
    return results(reserves, bids[:i] + [row] + bids[i + 1:])[i]


def utility(result, values):
    lot, payment = result
    return 0 if lot == -1 else values[lot] - payment
