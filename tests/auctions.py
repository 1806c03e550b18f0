"""Many auctions to try the program on; always the same ones."""

import random


def small_auctions(count, lots, highest, seed):
    """Auctions of few and small numbers, so that there are many ties; some bidders without bids."""
    source = random.Random(seed)
    for _ in range(count):
        reserves = [source.randint(0, highest) for _ in range(lots)]
        bids = []
        for _ in range(5):
            row = [source.randint(0, highest) for _ in range(lots)]
            bids.append(None if source.randint(0, 4) == 0 else row)
        yield reserves, bids


def many_auctions(count=30):
    """Auctions of one to four lots, from those full of ties to those of the largest numbers."""
    for lots in range(1, 5):
        for highest in (1, 2, 5, 60):
            yield from small_auctions(count, lots, highest, seed=100 * lots + highest)


def some_rows(source, lots, count=3):
    """Bids or true values of small, middle and large numbers."""
    return [[source.randint(0, highest) for _ in range(lots)] for highest in (2, 6, 60) for _ in range(count)]


def prices_near(source, low, high):
    """Prices between the minimum and the maximum prices, or a little beside them."""
    near = [source.randint(a, b) + source.choice((0, 0, 0, 0, -1, 1)) for a, b in zip(low, high)]
    return [max(0, price) for price in near]
