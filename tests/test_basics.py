"""Section 2: names, and the helpers that several modules share."""

import unittest

from alldrawn.basics import (comes_ahead, ends_of_run, from_first, from_member, is_name, is_number, pairs_round, pieces,
                             reached)
from tests.helper import Case, FLAT, KITE, TWIG, nested


class Names(Case):
    def test_names(self):
        for value in ("a", "z", "place", "abcdefgh", "zzzzzzzz"):
            self.assertIs(is_name(value), True)

    def test_no_names(self):
        for value in ("", "abcdefghi", "A", "aB", "a1", "a b", " a", "a ", "a_", "a-b", "a\n", "\n", "'", "1",
                      None, True, False, 0, 1, (), ("a",), ["a"], ["a", "b"], {}, {"a": "b"}, nested("tuple", "a"),
                      KITE, FLAT):
            with self.subTest(value=value):
                self.assertIs(is_name(value), False)


class Numbers(Case):
    def test_numbers(self):
        for value in (0, 1, 2, 9):
            self.assertIs(is_number(value, 10), True)

    def test_no_numbers(self):
        for value in (-1, 10, 10 ** 39, True, False, None, "", "1", "a", (), (1,), [1], {}, {1: 1}, KITE, FLAT):
            with self.subTest(value=value):
                self.assertIs(is_number(value, 10), False)
        self.assertIs(is_number(0, 0), False)


class Cycles(Case):
    def test_pairs_round(self):
        self.same(pairs_round(("a", "b", "c")), [("a", "b"), ("b", "c"), ("c", "a")])

    def test_from_first(self):
        self.same(from_first(("d", "c", "b", "a"), ("a", "b", "c")), ("c", "a", "b"))
        self.same(from_first(("a", "b", "c"), ("a", "c", "b")), ("a", "c", "b"))


    def test_from_member(self):
        self.same(from_member(("a", "b", "c"), "b"), ("b", "c", "a"))
        self.same(from_member(("a", "b", "c"), "a"), ("a", "b", "c"))

    def test_comes_ahead(self):
        cycle = ("a", "b", "c", "d")
        for a, b, c, due in (("a", "b", "c", True), ("b", "a", "c", False), ("d", "a", "c", True),
                             ("c", "b", "d", False)):
            self.assertIs(comes_ahead(cycle, a, b, c), due)

    def test_ends_of_run(self):
        cycle = ("a", "b", "c", "d")
        for some, due in (("ab", 1), ("da", 1), ("ac", 2), ("abcd", 0), ("", 0), ("b", 1), ("bcd", 1)):
            self.same(ends_of_run(cycle, tuple(some)), due)


class Pieces(Case):
    def test_reached(self):
        self.same(reached(TWIG, "b", ("u", "t", "d", "b")), ("d", "b"))
        self.same(reached(TWIG, "t", ["u", "t", "d", "b"]), ("t",))
        self.same(reached(TWIG, "u", TWIG.places), TWIG.places)

    def test_pieces(self):
        self.same(pieces(TWIG, ("u", "t", "d", "b")), [("u",), ("t",), ("d", "b")])
        self.same(pieces(TWIG, ["b", "t", "u", "a", "d"]), [("b", "t", "u", "a", "d")])
        self.same(pieces(TWIG, ()), [])


if __name__ == "__main__":
    unittest.main()
