"""How answers is called and what it gives back."""

import inspect
import unittest

from sealedlots import auction
from tests.helpers import CLOSE, FAR, MAXIMUM, MINIMUM, RESULT, TOTAL, ask, check, demand, flat, new, split, submit

MANY = [
    TOTAL, new([]), new([3, 4, 5]), submit(0, [9, 8, 7]), submit(3, [8, 8, 8]), submit(3, [9, 9, 0]), submit(9, [1]),
    submit(1, [FAR] * 10), RESULT, CLOSE, RESULT, MINIMUM, MAXIMUM, TOTAL, check([3, 4, 5]), check([3, 4]),
    check([-FAR]), demand(0, [6, 5, 4]), demand(1, [0, 0, 0]), demand(3, [9, 9, 1]), demand(-FAR, []), CLOSE]


class Unchanging(list):
    """A list that can be read only."""

    def refuse(self, *arguments, **named):
        raise AssertionError("what is handed in was changed")

    __setitem__ = __delitem__ = __iadd__ = __imul__ = refuse
    append = clear = extend = insert = pop = remove = reverse = sort = refuse


class InterfaceTest(unittest.TestCase):

    def test_the_name_and_its_argument(self):
        self.assertEqual(list(inspect.signature(auction.answers).parameters), ["calls"])
        self.assertEqual(auction.answers(calls=[2]), [1, -2])

    def test_each_answer_has_its_length_ahead(self):
        self.assertEqual(auction.answers([0, 1, 7]), [1, 0])
        self.assertEqual(auction.answers([0, 0]), [1, -1])
        self.assertEqual(auction.answers([0, 1, 7, 2, 4, 3]), [1, 0, 2, 0, 0, 3, 0, 1, 7, 11, 0] + [-1, 0] * 5)

    def test_whole_numbers_in_a_list(self):
        answered = auction.answers(flat(MANY))
        self.assertIs(type(answered), list)
        self.assertEqual({type(number) for number in answered}, {int})
        self.assertEqual(len(split(answered)), len(MANY))

    def test_only_lists_have_a_length_ahead(self):
        sizes = [len(row) for row in ask(new([1, 1, 1]), submit(0, [2, 2, 2]), CLOSE, RESULT, MINIMUM, MAXIMUM, TOTAL,
                                         check([1, 1, 1]), check([0, 1, 1]), demand(0, [1, 1, 1]))]
        self.assertEqual(sizes, [1, 2, 2, 11, 5, 5, 2, 2, 4, 5])

    def test_what_is_handed_in_stays_as_it_was(self):
        calls = flat(MANY)
        auction.answers(calls)
        self.assertEqual(calls, flat(MANY))

    def test_what_is_handed_in_is_not_changed_for_a_while_either(self):
        self.assertEqual(auction.answers(Unchanging(flat(MANY))), auction.answers(flat(MANY)))

    def test_a_second_time_is_like_the_first(self):
        calls = flat(MANY)
        first = auction.answers(calls)
        self.assertEqual(auction.answers(calls), first)
        self.assertEqual(auction.answers([2]), [1, -2])
        self.assertEqual(auction.answers(calls), first)

    def test_what_is_given_back_is_nobody_elses(self):
        first = auction.answers(flat(MANY))
        kept = list(first)
        first.clear()
        self.assertEqual(auction.answers(flat(MANY)), kept)

    def test_sixty_calls(self):
        calls = [new([1, 2, 3, 4])] + [submit(i % 5, [60, 0, 60, 0]) for i in range(30)] + [CLOSE]
        calls += [RESULT, MINIMUM, MAXIMUM, TOTAL] * 2 + [check([1, 2, 3, 4])] * 4
        calls += [demand(i % 5, [1000] * 4) for i in range(60 - len(calls))]
        answered = ask(*calls)
        self.assertEqual(len(answered), 60)
        self.assertEqual([row[1] for row in answered[1:31]], [0] * 5 + [1] * 25)
        self.assertEqual(answered[31], [0, 5])
        self.assertEqual(answered[32:36], answered[36:40])
        self.assertEqual(answered[44:], [[0, 1, -1]] * 16)

    def test_sixty_calls_of_the_longest_lists(self):
        self.assertEqual(ask(*[submit(FAR, [-FAR] * 10)] * 60), [[-1]] * 60)
        self.assertEqual(ask(*[new([0] * 10), demand(-1, [FAR] * 10)] * 30), [[-1]] * 60)


if __name__ == "__main__":
    unittest.main()
