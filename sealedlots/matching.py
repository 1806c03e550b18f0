"""The allocation of the maximum value, and that value.

A set of lots is a number here: the sum of 1 << lot over its members.
"""

NONE = -1


def unsold_values(reserves):
    """For each set of lots: the sum of the reserves of its members."""
    sums = [0]
    for reserve in reserves:
        sums = sums + [reserve + others for others in sums]
    return sums


def choices(row, left, later):
    """What a bidder who bids row can get of the lots left: pairs of the value that follows and the lot.

    later tells, for each set of lots, what the bidders behind this one make of it at most.
    The order of the pairs is the one that decides between allocations of the same value.
    """
    found = []
    for lot, bid in enumerate(row):
        if left >> lot & 1:
            found.append((bid + later[left - (1 << lot)], lot))
    found.append((later[left], NONE))
    return found


def best_choice(row, left, later):
    """The first pair of the maximum value."""
    best = None
    for choice in choices(row, left, later):
        if best is None or choice[0] > best[0]:
            best = choice
    return best


def value_tables(reserves, bids):
    """At [i][left]: the maximum value of the set of lots left, if only the bidders from i on can get them."""
    later = unsold_values(reserves)
    tables = [later]
    for row in reversed(bids):
        later = [best_choice(row, left, later)[0] for left in range(len(later))]
        tables.append(later)
    return list(reversed(tables))


def maximum_value(reserves, bids):
    """The value of the returned allocation."""
    return value_tables(reserves, bids)[0][-1]


def returned_allocation(reserves, bids):
    """For each bidder the lot or NONE."""
    tables = value_tables(reserves, bids)
    left = len(tables[0]) - 1
    allocation = []
    for i, row in enumerate(bids):
        lot = best_choice(row, left, tables[i + 1])[1]
        allocation.append(lot)
        if lot != NONE:
            left -= 1 << lot
    return allocation
