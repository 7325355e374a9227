"""Section 4: nets."""

import itertools
import unittest

from alldrawn.errors import BadNet, BadTie, Few, Full, NoPlace, NotTied
from alldrawn.nets import Net
from tests.helper import (Case, FIVE, FLAT, FOUR, FULL, FULL_TIES, KITE, LETTERS, LONG, LONG_TIES, NETS, SQUARE, TEN,
                          TRIANGLE, nested, net_of, not_tied, text_of, wrong_values)


class Examples(Case):
    def test_kite(self):
        kite = Net("places a b c d\ntie a b\ntie b c\ntie c d\ntie d a\ntie a c")
        self.same(kite.ties, (("a", "b"), ("a", "c"), ("a", "d"), ("b", "c"), ("c", "d")))
        self.same(kite["a"], ("b", "c", "d"))
        self.same(len(kite), 4)
        self.same(kite.tied("d", "b"), False)
        self.same((kite + ("d", "b")).ties[4], ("b", "d"))
        self.same((kite - ("c", "a")).text.split("\n")[2], "tie a d")


class Texts(Case):
    def bad(self, number, text):
        self.refused(BadNet, number, Net, text)

    def test_no_string(self):
        for value in wrong_values():
            if not isinstance(value, str):
                with self.subTest(value=value):
                    self.bad(0, value)
        text = KITE.text
        for value in (["places a b c", "tie a b"], text.split("\n"), (text,), {text: text}, nested("list", text), KITE):
            self.bad(0, value)

    def test_strings_that_are_no_nets(self):
        for value in wrong_values():
            if isinstance(value, str):
                with self.subTest(value=value):
                    self.bad(1, value)

    def test_first_line(self):
        rest = "\ntie a b\ntie b c\ntie c a"
        Net("places a b c" + rest)
        for line in ("", " ", "places", "places ", "places a b", "place a b c", "Places a b c", "PLACES a b c",
                     "tie a b", "places a b c ", " places a b c", "places  a b c", "places a  b c", "places\ta b c",
                     "places,a,b,c", "places a b b", "places a b c a", "places a b c D", "places a b c 1",
                     "places a b c d-e", "places a b c abcdefghi", "places a b c a1", "places a b c _",
                     "places a b c .", "placesa b c d", "places " + " ".join(LETTERS) + " q", "a b c", "net a b c"):
            with self.subTest(line=line):
                self.bad(1, line + rest)
        self.bad(2, "places a b c\n" + rest)
        self.bad(1, "\nplaces a b c" + rest)

    def test_ties_on_their_lines(self):
        Net("places a b c\ntie a b\ntie b c\ntie c a")
        for line in ("", " ", "tie", "tie a", "tie a ", "tie a b c", "tie b c ", " tie b c", "tie  b c", "tie b  c",
                     "tie\tb c", "ties b c", "Tie b c", "b c", "tie b b", "tie b d", "tie d b", "tie b B", "tie b 1",
                     "tie bc", "tie b,c", "tie a b", "tie b a", "places a b c", "places d e f", "tie b c tie c a"):
            with self.subTest(line=line):
                self.bad(3, f"places a b c\ntie a b\n{line}\ntie c a")
                self.bad(3, f"places a b c\ntie a b\n{line}\ntie c a\nand more")

    def test_first_wrong_line_counts(self):
        self.bad(1, "places a b\ntie a a\ntie a b")
        self.bad(2, "places a b c\ntie a a\ntie a b\ntie a b")
        self.bad(4, "places a b c\ntie a b\ntie b c\ntie b a\ntie x y")
        self.bad(5, "places a b c\ntie a b\ntie b c\ntie c a\ntie a c")

    def test_lines_missing(self):
        self.bad(1, "")
        self.bad(2, "places a b c")
        self.bad(3, "places a b c\ntie a b")
        self.bad(4, "places a b c\ntie a b\ntie b c")
        self.bad(4, "places a b c d\ntie a b\ntie b c")
        self.bad(1, "tie a b\ntie b c\ntie c a")
        self.bad(1, "tie a b\nplaces a b c\ntie b c\ntie c a")

    def test_line_feeds(self):
        self.bad(2, "places a b c\n")
        self.bad(4, "places a b c\ntie a b\ntie b c\n")
        self.bad(5, "places a b c\ntie a b\ntie b c\ntie c a\n")
        self.bad(5, "places a b c\ntie a b\ntie b c\ntie c a\n\n")
        self.bad(3, "places a b c\ntie a b\n\ntie b c\ntie c a")
        self.bad(1, "places a b c tie a b\ntie b c\ntie c a")

    def test_places_line_twice(self):
        self.bad(2, "places a b c\nplaces a b c\ntie a b\ntie b c\ntie c a")
        self.bad(5, "places a b c\ntie a b\ntie b c\ntie c a\nplaces a b c")

    def test_three_places_and_sixteen(self):
        self.same(Net("places a b c\ntie a b\ntie b c\ntie c a").places, ("a", "b", "c"))
        self.same(LONG.places, tuple(LETTERS))
        self.same(len(LONG), 16)
        self.bad(1, "places a b\ntie a b")
        self.bad(1, text_of(LETTERS + "q", LONG_TIES))

    def test_three_ties_and_forty_five(self):
        self.same(len(TRIANGLE.ties), 3)
        self.same(len(TEN.ties), 45)
        self.same(len(FULL.ties), 45)
        more = [tie for tie in itertools.combinations(LETTERS, 2) if tie not in FULL.ties]
        self.bad(47, text_of(LETTERS, FULL_TIES + more[:1]))
        self.bad(47, text_of(LETTERS, FULL_TIES + more[:4]))
        self.bad(47, text_of(LETTERS, FULL_TIES) + "\n")
        self.bad(46, text_of(LETTERS, FULL_TIES[:44] + [("a", "a")] + more))

    def test_names_of_one_letter_and_of_eight(self):
        net = Net("places abcdefgh z yyyyyyyy\ntie z abcdefgh\ntie yyyyyyyy z\ntie abcdefgh yyyyyyyy")
        self.same(net.places, ("abcdefgh", "z", "yyyyyyyy"))
        self.same(net.ties, (("abcdefgh", "z"), ("abcdefgh", "yyyyyyyy"), ("z", "yyyyyyyy")))
        self.bad(1, net.text.replace("yyyyyyyy", "yyyyyyyyy"))
        self.bad(1, "places a b \ntie a b\ntie b \ntie  a")
        self.same(Net("places places tie a\ntie places tie\ntie tie a\ntie a places").places, ("places", "tie", "a"))

    def test_text_is_checked_ahead_of_ties(self):
        self.bad(5, "places a b c d\ntie a b\ntie b c\ntie c a\ntie a a")
        self.bad(4, "places a b c d\ntie a b\ntie c d")


class WellTied(Case):
    def test_not_at_all(self):
        self.refused(NotTied, None, Net, "places a b c d\ntie a b\ntie b c\ntie c a")
        self.refused(NotTied, None, Net, text_of("abcdef", ["ab", "bc", "ca", "de", "ef", "fd"]))
        self.refused(NotTied, None, Net, text_of("dabc", ["ab", "bc", "ca"]))

    def test_a_place_too_much_depends_on(self):
        self.refused(NotTied, "b", Net, text_of("abcd", ["ab", "bc", "cd"]))
        self.refused(NotTied, "c", Net, text_of("dcba", ["ab", "bc", "cd"]))
        self.refused(NotTied, "m", Net, text_of("abmcd", ["am", "bm", "ab", "cm", "dm", "cd"]))
        self.refused(NotTied, "a", Net, text_of("abcd", ["ab", "bc", "ca", "ad"]))
        self.refused(NotTied, "c", Net, text_of("dcba", ["ab", "bc", "ca", "cd"]))

    def test_all_nets_of_four_places(self):
        self.check_all("abcd")

    def test_all_nets_of_five_places(self):
        self.check_all("dbeac")

    def check_all(self, places):
        pairs = list(itertools.combinations(places, 2))
        for many in range(3, len(pairs) + 1):
            for ties in itertools.combinations(pairs, many):
                due = not_tied(places, ties)
                text = text_of(places, ties[::-1])
                if due:
                    self.refused(NotTied, due[0], Net, text)
                else:
                    self.same(Net(text).ties, ties)


class Asked(Case):
    def test_text_stays(self):
        text = "places c a b\ntie b a\ntie c b\ntie a c"
        net = Net(text)
        self.same(net.text, text)
        self.same(net.places, ("c", "a", "b"))
        self.same(net.ties, (("c", "a"), ("c", "b"), ("a", "b")))

    def test_neighbours_in_sequence(self):
        net = Net("places d a c b\ntie b d\ntie a d\ntie c a\ntie b c\ntie b a")
        self.same([net[place] for place in net.places], [("a", "b"), ("d", "c", "b"), ("a", "b"), ("d", "a", "c")])
        for net in NETS:
            for place in net.places:
                self.same(net[place], tuple(other for other in net.places
                                            if (place, other) in net.ties or (other, place) in net.ties))

    def test_neighbours_of_no_place(self):
        for value in wrong_values():
            with self.subTest(value=value):
                self.refused_itself(NoPlace, value, lambda asked: KITE[asked], value)

    def test_how_many(self):
        self.same([len(net) for net in (TRIANGLE, KITE, FIVE, TEN, LONG)], [3, 4, 5, 10, 16])

    def test_places_in_a_net(self):
        for place in KITE.places:
            self.assertIs(place in KITE, True)
        for value in wrong_values() + [("a", "b"), ["a"], "e", KITE.places, KITE.text]:
            with self.subTest(value=value):
                self.assertIs(value in KITE, False)
                self.assertIs(value not in KITE, True)

    def test_tied(self):
        for net in (KITE, SQUARE, FIVE):
            for one in net.places:
                for other in net.places:
                    due = (one, other) in net.ties or (other, one) in net.ties
                    self.assertIs(net.tied(one, other), due)
        self.assertIs(KITE.tied("a", "a"), False)

    def test_tied_of_no_place(self):
        for value in wrong_values():
            with self.subTest(value=value):
                self.refused_itself(NoPlace, value, KITE.tied, value, "a")
                self.refused_itself(NoPlace, value, KITE.tied, "a", value)
                self.refused_itself(NoPlace, value, KITE.tied, value, ["other"])


class Changed(Case):
    def test_a_tie_more(self):
        for tie in (("b", "d"), ("d", "b")):
            more = KITE + tie
            self.same(more.ties, (("a", "b"), ("a", "c"), ("a", "d"), ("b", "c"), ("b", "d"), ("c", "d")))
            self.same(more.text, "places a b c d\ntie a b\ntie a c\ntie a d\ntie b c\ntie b d\ntie c d")
            self.assertEqual(more, FOUR)
            self.assertIs(type(more), Net)

    def test_a_tie_more_in_another_sequence(self):
        net = Net("places d a c b\ntie b d\ntie a d\ntie c a\ntie b c")
        self.same((net + ("b", "a")).text, "places d a c b\ntie d a\ntie d b\ntie a c\ntie a b\ntie c b")

    def test_no_tie_to_add(self):
        for value in wrong_values() + [("a", "c"), ("c", "a"), ("b", "b"), ("b", "d", "a"), ("b",), ["b", "d"], "bd",
                                       ("b", "e"), ("e", "b"), ("b", None), (True, "d"), (("b", "d"),)]:
            with self.subTest(value=value):
                self.refused_itself(BadTie, value, lambda tie: KITE + tie, value)

    def test_full(self):
        self.refused(Full, 45, lambda: FULL + ("g", "p"))
        self.refused(Full, 45, lambda: FULL + ("p", "g"))
        self.refused(BadTie, ("a", "b"), lambda: FULL + ("a", "b"))
        self.refused(BadTie, ("a", "q"), lambda: FULL + ("a", "q"))
        self.refused(BadTie, ["g", "p"], lambda: FULL + ["g", "p"])
        self.refused(BadTie, ("a", "b"), lambda: TEN + ("a", "b"))
        less = FULL - ("a", "b")
        self.assertEqual(less + ("b", "a"), FULL)

    def test_a_tie_less(self):
        for tie in (("a", "c"), ("c", "a")):
            less = KITE - tie
            self.same(less.text, "places a b c d\ntie a b\ntie a d\ntie b c\ntie c d")
            self.assertEqual(less, SQUARE)
            self.assertIs(type(less), Net)

    def test_no_tie_to_take(self):
        for value in wrong_values() + [("b", "d"), ("d", "b"), ("a", "a"), ("a", "c", "b"), ("a",), ["a", "c"], "ac",
                                       ("a", "e"), (("a", "c"),), ("a", True)]:
            with self.subTest(value=value):
                self.refused_itself(BadTie, value, lambda tie: KITE - tie, value)

    def test_a_tie_that_is_needed(self):
        self.refused(NotTied, "c", lambda: KITE - ("a", "b"))
        self.refused(NotTied, "a", lambda: KITE - ("c", "b"))
        self.refused(NotTied, "b", lambda: SQUARE - ("d", "a"))
        # Of three ties two would be left: too few for a text, but that they do not hang together is what counts.
        self.refused(NotTied, "c", lambda: TRIANGLE - ("a", "b"))
        self.refused(NotTied, "b", lambda: TRIANGLE - ("c", "a"))
        self.refused(NotTied, "b", lambda: LONG - ("p", "a"))

    def test_without(self):
        self.same(KITE.without("d").text, "places a b c\ntie a b\ntie a c\ntie b c")
        self.same(KITE.without("b").text, "places a c d\ntie a c\ntie a d\ntie c d")
        self.assertEqual(FIVE.without("e"), FOUR)
        mixed = Net("places e c a b\ntie b a\ntie c b\ntie a c\ntie e a\ntie b e")
        self.same(mixed.without("e").text, "places c a b\ntie c a\ntie c b\ntie a b")

    def test_without_no_place(self):
        for value in wrong_values():
            with self.subTest(value=value):
                self.refused_itself(NoPlace, value, KITE.without, value)
                self.refused_itself(NoPlace, value, TRIANGLE.without, value)

    def test_without_few(self):
        for place in "abc":
            self.refused(Few, 3, TRIANGLE.without, place)

    def test_without_what_is_needed(self):
        self.refused(NotTied, "c", SQUARE.without, "a")
        self.refused(NotTied, "a", SQUARE.without, "c")
        self.refused(NotTied, "c", KITE.without, "a")
        self.refused(NotTied, "b", LONG.without, "p")
        self.refused(NotTied, "c", LONG.without, "a")

    def test_all_changes(self):
        for net in NETS:
            for place in net.places if len(net) > 3 else ():
                places = [other for other in net.places if other != place]
                ties = tuple(tie for tie in net.ties if place not in tie)
                due = not_tied(places, ties)
                if due:
                    self.refused(NotTied, due[0], net.without, place)
                else:
                    self.same(net.without(place).places, tuple(places))
                    self.same(net.without(place).ties, ties)
            for tie in net.ties:
                ties = tuple(other for other in net.ties if other != tie)
                due = not_tied(net.places, ties)
                if due:
                    self.refused(NotTied, due[0], lambda: net - tie)
                else:
                    self.same((net - tie).ties, ties)
                    self.same((net - tie).text, text_of(net.places, ties))
                    self.assertEqual((net - tie) + tie[::-1], net)

    def test_nothing_changes(self):
        before = (KITE.text, KITE.places, KITE.ties, [KITE[place] for place in KITE.places])
        KITE + ("b", "d"), KITE - ("a", "c"), KITE.without("b")
        for call in (lambda: KITE + ("a", "c"), lambda: KITE - ("a", "b"), lambda: KITE.without("a"),
                     lambda: KITE["e"]):
            self.assertRaises(ValueError, call)
        self.same((KITE.text, KITE.places, KITE.ties, [KITE[place] for place in KITE.places]), before)
        value = ["b", "d"]
        self.refused_itself(BadTie, value, lambda: KITE + value)
        self.same(value, ["b", "d"])

    def test_a_new_text_can_be_read_again(self):
        for net in (KITE + ("b", "d"), KITE - ("a", "c"), FIVE.without("a")):
            self.assertEqual(Net(net.text), net)
            self.same(Net(net.text).text, net.text)


class Equal(Case):
    def test_equal(self):
        other = Net("places a b c d\ntie c a\ntie d c\ntie a d\ntie c b\ntie b a")
        self.assertIs(other == KITE, True)
        self.assertIs(other != KITE, False)
        self.assertNotEqual(other.text, KITE.text)
        self.assertIs(KITE == KITE, True)

    def test_other_sequence(self):
        self.assertIs(net_of("b a c d", "ab bc cd da ac") == KITE, False)
        self.assertIs(net_of("b a c d", "ab bc cd da ac") != KITE, True)

    def test_other_sequence_with_the_same_ties(self):
        one = net_of("p q r s x y", "pq qr rs sp px qx ry sy")
        other = net_of("p q r s y x", "pq qr rs sp px qx ry sy")
        self.same(one.ties, other.ties)
        self.assertIs(one == other, False)

    def test_other_ties(self):
        self.assertIs(net_of("a b c d", "ab bc cd da bd") == KITE, False)
        self.assertIs(FOUR == KITE, False)
        self.assertIs(SQUARE == KITE, False)
        self.assertIs(net_of("a b c e", "ab bc ce ea ac") == KITE, False)

    def test_equal_to_nothing_else(self):
        values = [value for value in wrong_values() if not isinstance(value, Net)]
        for value in values + [FLAT, KITE.text, KITE.places, KITE.ties, (KITE.places, KITE.ties), [KITE], (KITE,)]:
            with self.subTest(value=value):
                self.assertIs(KITE == value, False)
                self.assertIs(value == KITE, False)
                self.assertIs(KITE != value, True)


if __name__ == "__main__":
    unittest.main()
