"""Cuts the list that is handed in into calls."""

# By the number of the operation.
WITH_BIDDER = (1, 8, 11, 12, 13, 14)
WITH_ROW = (0, 1, 7, 8, 9, 11, 12, 13)


class Call:
    """One call; bidder and row are None where the operation has no such argument."""

    def __init__(self, number, bidder, row):
        self.number = number
        self.bidder = bidder
        self.row = row


def split_calls(numbers):
    """The calls that stand one behind another in numbers."""
    found = []
    at = 0
    while at < len(numbers):
        number = numbers[at]
        at += 1
        bidder = None
        if number in WITH_BIDDER:
            bidder = numbers[at]
            at += 1
        row = None
        if number in WITH_ROW:
            end = at + 1 + numbers[at]
            row = numbers[at + 1:end]
            at = end
        found.append(Call(number, bidder, row))
    return found
