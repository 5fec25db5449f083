"""Decisions about a book that has much to decide come to an end soon."""

import time
import unittest

from forkpolls.asking import least_asks, needless, repairs
from forkpolls.books import Book
from tests import oracle
from tests.books import FAULTS

TEXT = """marks a b c
counted b c
keeps back cut join
yes a to b by 1
no b to c by 0
yes c to c by 0
no c to a by -1
late yes any to b by 1
join a b to c by 0
join b c to a by 0
join c b to a by 0
part b to c a by 0 1
part c to a b by 1 1
word c to a by -1
cut b to a by -1
back c to b by 0
strike a to b by 1"""


class Speed(unittest.TestCase):
    def test_each_within_a_second(self):
        book = Book.read(TEXT)
        for asked, result in ((least_asks, ()), (needless, tuple(range(14))), (repairs, ())):
            began = time.perf_counter()
            self.assertEqual(asked(book, ["apart"]), result)
            self.assertLess(time.perf_counter() - began, 1)

    def test_the_answers_by_the_oracle(self):
        book = Book.read(TEXT)
        self.assertIsNotNone(oracle.fault_depth(book, "apart"))
        for at in range(len(book)):
            self.assertIsNotNone(oracle.fault_depth(book.without(at), "apart"))

    def test_many_books(self):
        # Far more than they take, and far less than it took to look at each pair of standings.
        began = time.perf_counter()
        for seed in range(300):
            book = oracle.random_book(seed, 3)
            for asked in (least_asks, needless, repairs):
                asked(book, FAULTS)
        self.assertLess(time.perf_counter() - began, 5)


if __name__ == "__main__":
    unittest.main()
