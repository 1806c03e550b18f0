"""Ways to write calls and to read answers."""

from sealedlots.auction import answers

FAR = 10 ** 18

# The operations of which there are at most 12 in one list.
COSTLY = (3, 4, 5, 6, 7, 10, 11, 12, 13)

CLOSE = [2]
RESULT = [3]
MINIMUM = [4]
MAXIMUM = [5]
TOTAL = [6]
CLOCK = [10]
SUBMITTED = [15]
BIDS = [16]
SUMMARY = [17]


def new(reserves):
    return [0, len(reserves), *reserves]


def submit(i, bids):
    return [1, i, len(bids), *bids]


def check(prices):
    return [7, len(prices), *prices]


def demand(i, prices):
    return [8, i, len(prices), *prices]


def overdemanded(prices):
    return [9, len(prices), *prices]


def hypothetical(i, bids):
    return [11, i, len(bids), *bids]


def utility(i, values):
    return [12, i, len(values), *values]


def truthful(i, values):
    return [13, i, len(values), *values]


def total_without(i):
    return [14, i]


def flat(calls):
    """The calls as they are handed in; the document sets bounds to such a list."""
    calls = list(calls)
    numbers = [number for call in calls for number in call]
    assert 1 <= len(calls) <= 60 and len(numbers) <= 800, calls
    assert len([call for call in calls if call[0] in COSTLY]) <= 12, calls
    return numbers


def split(answered):
    """The answers, call by call."""
    rows = []
    at = 0
    while at < len(answered):
        end = at + 1 + answered[at]
        assert answered[at] >= 1 and end <= len(answered), answered
        rows.append(answered[at + 1:end])
        at = end
    return rows


def ask(*calls):
    """The answers to the calls, one list each."""
    rows = split(answers(flat(calls)))
    assert len(rows) == len(calls), (calls, rows)
    return rows


def last(*calls):
    """The answer to the last of the calls."""
    return ask(*calls)[-1]


def auction(reserves, bids):
    """The calls of a closed auction; bids has a row for each bidder, None for one who submits nothing."""
    calls = [new(reserves)]
    for i, row in enumerate(bids):
        if row is not None:
            calls.append(submit(i, row))
    return calls + [CLOSE]


def with_nobody_behind(bids):
    """The rows of five bidders, the missing ones at the end without bids."""
    return list(bids) + [None] * (5 - len(bids))


def after_closing(reserves, bids, *calls):
    """The answers to calls that stand behind those of a closed auction."""
    before = auction(reserves, bids)
    return ask(*before, *calls)[len(before):]


def after_closing_in_parts(reserves, bids, calls):
    """The same for any number of calls: as many lists as the document's bounds make necessary."""
    answered = []
    for start in range(0, len(calls), 12):
        answered += after_closing(reserves, bids, *calls[start:start + 12])
    return answered
