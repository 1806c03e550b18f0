"""Sealed-bid auctions with unit demand: sealedlots.auction.answers(calls)."""
