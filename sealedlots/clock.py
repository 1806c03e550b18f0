"""Overdemanded sets and the ascending clock.

A set of lots is a number here: the sum of 1 << lot over its members.
"""

from sealedlots.matching import NONE
from sealedlots.pricing import demand_set

# The empty set is never overdemanded, so it can stand for none.
NO_SET = 0


def how_many(members):
    """The number of the members of a set."""
    found = 0
    while members > 0:
        found += members & 1
        members >>= 1
    return found


def sets_in_order(lots):
    """All sets but the empty one: fewer members first, then smaller numbers."""
    return sorted(range(1, 1 << lots), key=how_many)


def wanted_sets(bids, prices):
    """The demand sets, as numbers, of the bidders who demand lots alone."""
    found = []
    for row in bids:
        demanded = demand_set(row, prices)
        if NONE not in demanded:
            found.append(sum([1 << lot for lot in demanded]))
    return found


def is_overdemanded(members, wanted):
    """Whether more of the wanted sets lie within the set than it has members."""
    within = [demanded for demanded in wanted if (demanded | members) == members]
    return len(within) > how_many(members)


def first_overdemanded_set(bids, prices):
    """The overdemanded set of the fewest lots, of these the smallest number; NO_SET if there is none."""
    wanted = wanted_sets(bids, prices)
    for members in sets_in_order(len(prices)):
        if is_overdemanded(members, wanted):
            return members
    return NO_SET


def raised(prices, members):
    """The prices, those of the members by 1 higher."""
    return [price + (members >> lot & 1) for lot, price in enumerate(prices)]


def run_clock(reserves, bids):
    """Two lists in a tuple: the sets of all rounds, and the prices at the end."""
    rounds = []
    prices = list(reserves)
    members = first_overdemanded_set(bids, prices)
    while members != NO_SET:
        rounds.append(members)
        prices = raised(prices, members)
        members = first_overdemanded_set(bids, prices)
    return (rounds, prices)
