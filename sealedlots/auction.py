"""Answers lists of calls on one auction."""

from sealedlots.operations import perform
from sealedlots.reading import split_calls
from sealedlots.refusals import first_refusal
from sealedlots.state import Auction


def answers(calls):
    """The answers to all calls, in order, each with how many numbers it has ahead of it."""
    auction = Auction()
    answered = []
    for call in split_calls(calls):
        answer = answer_to(auction, call)
        answered.append(len(answer))
        answered.extend(answer)
    return answered


def answer_to(auction, call):
    """The answer to one call: an error code alone, or 0 and the fields."""
    code = first_refusal(auction, call)
    if code != 0:
        return [code]
    return [0] + perform(auction, call)
