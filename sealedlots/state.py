"""The state that is kept from one call to the next."""

BIDDERS = 5
NO_BID = -1


class Auction:
    """One auction; reserves is None as long as there is none."""

    def __init__(self):
        self.reserves = None
        self.submitted = []
        self.closed = False

    def begin(self, reserves):
        """Starts a new auction, whatever was there before."""
        self.reserves = reserves
        self.submitted = [None] * BIDDERS
        self.closed = False

    def has_submitted(self, i):
        """Whether there are bids of bidder i."""
        return self.submitted[i] is not None

    def how_many_submitted(self):
        """The number of bidders with bids."""
        return len([row for row in self.submitted if row is not None])

    def submit(self, i, bids):
        """Keeps the bids of bidder i in the place of earlier ones."""
        self.submitted[i] = bids

    def shut(self):
        """Lets no more bids in."""
        self.closed = True

    def counted_bids(self):
        """One row of bids for each bidder, also for those who submitted none."""
        rows = []
        for row in self.submitted:
            if row is None:
                rows.append([NO_BID] * len(self.reserves))
            else:
                rows.append(row)
        return rows

    def counted_bids_with(self, i, row):
        """The same, as if bidder i had submitted this row."""
        rows = self.counted_bids()
        rows[i] = row
        return rows
