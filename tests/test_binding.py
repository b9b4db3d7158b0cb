"""Points 10 and 11: open kinds, ties, and what comes of them."""

import unittest

from helpers import refuses, seeded
from speakmill.binding import Bonds
from speakmill.errors import BadKind
from unifying import PlainBonds, Refused, words_of

NUMBER, TRUTH = ("number",), ("truth",)
NUMBERS = ("list", NUMBER)
# No two of these can be one.
CLOSED = (NUMBER, TRUTH, NUMBERS, ("list", TRUTH), ("list", NUMBERS), ("fn", NUMBER, NUMBER), ("fn", NUMBER, TRUTH),
          ("fn", TRUTH, NUMBER), ("fn", NUMBERS, NUMBER), ("fn", NUMBER, NUMBERS), ("list", ("fn", NUMBER, NUMBER)),
          ("fn", ("fn", NUMBER, NUMBER), NUMBER))


def opened(many):
    bonds = Bonds()
    return bonds, [bonds.fresh() for one in range(many)]


def fn(kind, other):
    return ("fn", kind, other)


def listed(kind, many):
    for one in range(many):
        kind = ("list", kind)
    return kind


class BondsTest(unittest.TestCase):
    def refused(self, bonds, one, other):
        refuses(self, bonds.tie, one, other, refusal=BadKind)

    def too_long(self, bonds, kind):
        refuses(self, bonds.final, kind, refusal=BadKind)


class FreshTest(BondsTest):
    def test_numbered_from_nought(self):
        bonds = Bonds()
        self.assertEqual([bonds.fresh() for one in range(5)], [("open", n) for n in range(5)])

    def test_in_each_bonds_by_itself(self):
        one, other = Bonds(), Bonds()
        self.assertEqual([one.fresh(), one.fresh(), other.fresh(), one.fresh(), other.fresh()],
                         [("open", 0), ("open", 1), ("open", 0), ("open", 2), ("open", 1)])
        one.tie(("open", 0), TRUTH)
        other.tie(("open", 0), NUMBERS)
        self.assertEqual(one.final(("open", 0)), TRUTH)
        self.assertEqual(other.final(("open", 0)), NUMBERS)
        self.assertEqual(other.final(("open", 1)), NUMBER)

    def test_ties_and_finals_are_not_counted(self):
        bonds = Bonds()
        first = bonds.fresh()
        bonds.tie(first, fn(NUMBERS, fn(TRUTH, NUMBER)))
        bonds.tie(fn(NUMBER, TRUTH), fn(NUMBER, TRUTH))
        bonds.final(fn(first, NUMBERS))
        self.assertEqual(bonds.fresh(), ("open", 1))
        self.assertEqual(bonds.final(("open", 1)), NUMBER)


class TieTest(BondsTest):
    def test_tells_nothing(self):
        bonds, (a, b) = opened(2)
        for one, other in ((a, b), (a, NUMBER), (b, a), (NUMBER, NUMBER), (a, a), (fn(a, b), fn(NUMBER, NUMBER))):
            self.assertIsNone(bonds.tie(one, other))

    def test_closed_kinds(self):
        for one in CLOSED:
            for other in CLOSED:
                if one == other:
                    Bonds().tie(one, other)
                else:
                    self.refused(Bonds(), one, other)

    def test_an_open_one_with_each_form(self):
        for kind in CLOSED:
            bonds, (a, b) = opened(2)
            bonds.tie(a, kind)
            bonds.tie(kind, b)
            bonds.tie(a, kind)
            bonds.tie(a, b)
            for one in (a, b, kind):
                self.assertEqual(bonds.final(one), kind)

    def test_an_open_one_with_two_kinds(self):
        for one in CLOSED:
            for other in CLOSED:
                if one != other:
                    bonds, (a,) = opened(1)
                    bonds.tie(a, one)
                    self.refused(bonds, a, other)
                    bonds, (a,) = opened(1)
                    bonds.tie(one, a)
                    self.refused(bonds, other, a)

    def test_open_ones_with_each_other(self):
        for kind in CLOSED:
            for order in ([0, 1, 2, 3], [3, 2, 1, 0], [1, 3, 0, 2]):
                bonds, kinds = opened(5)
                for k in order[:3]:
                    bonds.tie(kinds[k], kinds[(k + 1) % 4])
                self.assertEqual([bonds.final(one) for one in kinds], [NUMBER] * 5)
                bonds.tie(kinds[order[3]], kind)
                self.assertEqual([bonds.final(one) for one in kinds], [kind] * 4 + [NUMBER])

    def test_two_rows_of_open_ones_with_unlike_kinds(self):
        for one in CLOSED:
            for other in CLOSED:
                bonds, (a, b, c, d) = opened(4)
                bonds.tie(a, b)
                bonds.tie(c, d)
                bonds.tie(b, one)
                bonds.tie(other, c)
                if one == other:
                    bonds.tie(d, a)
                else:
                    self.refused(bonds, d, a)

    def test_an_open_one_with_itself(self):
        bonds, (a, b) = opened(2)
        bonds.tie(a, a)
        bonds.tie(a, b)
        bonds.tie(b, a)
        bonds.tie(fn(a, b), fn(b, a))
        self.assertEqual(bonds.final(a), NUMBER)
        bonds.tie(a, TRUTH)
        self.assertEqual(bonds.final(fn(a, b)), fn(TRUTH, TRUTH))

    def test_parts_of_lists_and_fns(self):
        bonds, (a, b, c) = opened(3)
        bonds.tie(("list", a), ("list", TRUTH))
        bonds.tie(fn(b, NUMBERS), fn(a, ("list", c)))
        self.assertEqual([bonds.final(one) for one in (a, b, c)], [TRUTH, TRUTH, NUMBER])
        self.refused(bonds, c, TRUTH)
        bonds, (a, b, c) = opened(3)
        bonds.tie(fn(a, fn(b, c)), fn(("list", b), fn(TRUTH, a)))
        self.assertEqual([bonds.final(one) for one in (a, b, c)], [("list", TRUTH), TRUTH, ("list", TRUTH)])

    def test_each_part_of_an_fn_counts(self):
        for one, other in ((fn(NUMBER, TRUTH), fn(NUMBER, NUMBER)), (fn(TRUTH, NUMBER), fn(NUMBER, NUMBER))):
            bonds, (a, b) = opened(2)
            bonds.tie(a, one)
            self.refused(bonds, a, other)
            bonds, (a, b) = opened(2)
            bonds.tie(fn(a, b), one)
            self.refused(bonds, other, fn(a, b))

    def test_what_is_tied_later_counts_in_what_was_tied_ahead(self):
        bonds, (a, b, c) = opened(3)
        bonds.tie(a, fn(b, ("list", c)))
        self.assertEqual(bonds.final(a), fn(NUMBER, NUMBERS))
        bonds.tie(b, c)
        bonds.tie(TRUTH, b)
        self.assertEqual(bonds.final(a), fn(TRUTH, ("list", TRUTH)))

    def test_kinds_that_are_not_tied_stay_apart(self):
        bonds, (a, b, c, d) = opened(4)
        bonds.tie(fn(a, b), fn(c, d))
        bonds.tie(a, TRUTH)
        self.assertEqual([bonds.final(one) for one in (a, b, c, d)], [TRUTH, NUMBER, TRUTH, NUMBER])


class WithinItselfTest(BondsTest):
    def test_at_once(self):
        for put in (lambda a: ("list", a), lambda a: fn(a, NUMBER), lambda a: fn(NUMBER, a), lambda a: fn(a, a),
                    lambda a: ("list", ("list", a)), lambda a: fn(NUMBERS, fn(("list", a), TRUTH))):
            for is_first in (True, False):
                bonds, (a, b) = opened(2)
                self.refused(bonds, *((a, put(a)) if is_first else (put(a), a)))
                bonds, (a, b) = opened(2)
                bonds.tie(a, b)
                self.refused(bonds, *((a, put(b)) if is_first else (put(a), b)))

    def test_by_way_of_several_ties(self):
        for many in (2, 3, 7):
            for first in range(many):
                bonds, kinds = opened(many)
                for k in range(1, many):
                    at = (first + k) % many
                    bonds.tie(kinds[at], ("list", kinds[(at + 1) % many]))
                self.refused(bonds, ("list", kinds[(first + 1) % many]), kinds[first])

    def test_by_a_tie_of_two_open_ones(self):
        bonds, (a, b, c) = opened(3)
        bonds.tie(a, ("list", b))
        bonds.tie(c, fn(a, NUMBER))
        self.refused(bonds, c, b)
        bonds, (a, b, c) = opened(3)
        bonds.tie(a, ("list", b))
        bonds.tie(c, fn(a, NUMBER))
        self.refused(bonds, b, c)

    def test_by_parts_of_what_is_tied(self):
        bonds, (a, b) = opened(2)
        self.refused(bonds, fn(a, b), fn(("list", b), ("list", a)))
        bonds, (a, b) = opened(2)
        self.refused(bonds, fn(a, a), fn(b, ("list", b)))
        bonds, (a, b, c) = opened(3)
        bonds.tie(c, fn(a, b))
        self.refused(bonds, fn(("list", b), ("list", a)), c)
        bonds, (a, b) = opened(2)
        bonds.tie(a, ("list", b))
        self.refused(bonds, fn(NUMBER, a), fn(NUMBER, b))

    def test_a_kind_twice_in_another_one_is_none(self):
        bonds, (a, b, c) = opened(3)
        bonds.tie(a, fn(b, b))
        bonds.tie(b, fn(c, c))
        bonds.tie(fn(a, b), fn(a, fn(c, c)))
        bonds.tie(c, TRUTH)
        self.assertEqual(bonds.final(a), fn(fn(TRUTH, TRUTH), fn(TRUTH, TRUTH)))


class FinalTest(BondsTest):
    def test_what_is_tied_to_nothing_is_number(self):
        bonds, (a, b) = opened(2)
        self.assertEqual(bonds.final(a), NUMBER)
        self.assertEqual(bonds.final(fn(("list", a), fn(b, a))), fn(NUMBERS, fn(NUMBER, NUMBER)))
        bonds.tie(a, ("list", b))
        self.assertEqual(bonds.final(("list", a)), listed(NUMBER, 2))

    def test_closed_kinds_stay_as_they_are(self):
        for kind in CLOSED:
            self.assertEqual(Bonds().final(kind), kind)

    def test_number_in_the_telling_alone(self):
        bonds, (a,) = opened(1)
        self.assertEqual(bonds.final(a), NUMBER)
        bonds.tie(a, TRUTH)
        self.assertEqual(bonds.final(a), TRUTH)

    def test_asked_again_the_same(self):
        bonds, (a, b, c) = opened(3)
        bonds.tie(a, fn(b, ("list", c)))
        kind = fn(a, ("list", b))
        kept = repr(kind)
        for many in range(3):
            self.assertEqual(bonds.final(kind), fn(fn(NUMBER, NUMBERS), NUMBERS))
        first = bonds.final(kind)
        bonds.tie(b, TRUTH)
        self.assertEqual(first, fn(fn(NUMBER, NUMBERS), NUMBERS))
        self.assertEqual(repr(kind), kept)
        self.assertEqual(bonds.final(kind), fn(fn(TRUTH, NUMBERS), ("list", TRUTH)))

    def test_sixty_words_and_one_more(self):
        for end in (NUMBER, TRUTH):
            self.assertEqual(Bonds().final(listed(end, 59)), listed(end, 59))
            self.too_long(Bonds(), listed(end, 60))
        bonds, (a, b) = opened(2)
        self.assertEqual(bonds.final(listed(a, 59)), listed(NUMBER, 59))
        self.too_long(bonds, listed(a, 60))
        bonds.tie(a, NUMBERS)
        self.too_long(bonds, listed(a, 59))
        self.assertEqual(bonds.final(listed(a, 58)), listed(NUMBER, 59))

    def test_sixty_words_with_fns(self):
        kind = listed(NUMBER, 27)
        for put in (lambda k: fn(k, fn(TRUTH, kind)), lambda k: fn(fn(kind, TRUTH), k),
                    lambda k: fn(k, fn(kind, TRUTH))):
            for more in range(20, 35):
                told = put(listed(NUMBER, more))
                bonds, (a, b) = opened(2)
                bonds.tie(put(a), fn(b, told[2]) if put(a)[1] == a else fn(told[1], b))
                bonds.tie(b, listed(NUMBER, more))
                if words_of(told) <= 60:
                    self.assertEqual(bonds.final(put(a)), told)
                else:
                    self.too_long(bonds, put(a))
        self.assertEqual(words_of(fn(listed(NUMBER, 28), fn(TRUTH, kind))), 60)

    def test_ties_of_long_kinds_are_let_by(self):
        bonds, (a, b) = opened(2)
        bonds.tie(a, listed(NUMBER, 200))
        bonds.tie(listed(b, 100), a)
        self.too_long(bonds, a)
        self.too_long(bonds, b)
        self.refused(bonds, b, listed(TRUTH, 100))
        bonds, (a, b) = opened(2)
        bonds.tie(a, listed(b, 60))
        bonds.tie(b, NUMBER)
        self.assertEqual(bonds.final(b), NUMBER)
        self.too_long(bonds, a)


class GrowingTest(BondsTest):
    """Kinds that grow fast: each open one is an fn of the next one twice."""

    def grown(self, bonds, many, is_backwards=False, put=lambda kind: fn(kind, kind)):
        kinds = [bonds.fresh() for one in range(many)]
        order = list(range(many - 1))
        for k in (reversed(order) if is_backwards else order):
            bonds.tie(kinds[k], put(kinds[k + 1]))
        return kinds

    def test_final(self):
        for is_backwards in (True, False):
            bonds = Bonds()
            kinds = self.grown(bonds, 300, is_backwards)
            told = NUMBER
            for kind in reversed(kinds[-5:]):
                self.assertEqual(bonds.final(kind), told)
                told = fn(told, told)
            for kind in kinds[:-5]:
                self.too_long(bonds, kind)
            bonds.tie(kinds[-1], TRUTH)
            self.assertEqual(bonds.final(kinds[-3]), fn(fn(TRUTH, TRUTH), fn(TRUTH, TRUTH)))

    def test_two_of_them_are_tied(self):
        for end in (NUMBER, TRUTH, None):
            bonds = Bonds()
            one, other = self.grown(bonds, 200), self.grown(bonds, 200, True)
            bonds.tie(one[0], other[0])
            bonds.tie(one[0], other[0])
            bonds.tie(fn(one[0], one[7]), fn(other[0], other[7]))
            if end is not None:
                bonds.tie(one[-1], end)
                self.assertEqual(bonds.final(other[-1]), end)
                self.refused(bonds, other[-2], end)

    def test_two_of_them_with_unlike_ends(self):
        bonds = Bonds()
        one, other = self.grown(bonds, 200), self.grown(bonds, 200)
        bonds.tie(one[-1], NUMBER)
        bonds.tie(other[-1], TRUTH)
        self.refused(bonds, one[0], other[0])

    def test_two_of_them_whose_open_ones_stand_at_other_places(self):
        bonds = Bonds()
        one = self.grown(bonds, 100, put=lambda kind: fn(fn(kind, kind), fn(kind, kind)))
        other = self.grown(bonds, 100, put=lambda kind: fn(fn(kind, kind), fn(kind, kind)))
        bonds.tie(one[0], fn(other[0], other[0]))
        bonds.tie(other[-1], TRUTH)
        self.refused(bonds, one[-1], TRUTH)

    def test_within_themselves(self):
        bonds = Bonds()
        kinds = self.grown(bonds, 200)
        self.refused(bonds, kinds[-1], kinds[0])
        bonds = Bonds()
        one, other = self.grown(bonds, 200), self.grown(bonds, 200)
        bonds.tie(one[-1], other[0])
        self.refused(bonds, other[-1], ("list", one[0]))

    def test_a_long_kind_that_was_never_tied(self):
        kind = NUMBER
        for many in range(100):
            kind = fn(kind, kind)
        self.too_long(Bonds(), kind)

    def test_long_rows(self):
        bonds, kinds = opened(5000)
        for one, other in zip(kinds, kinds[1:]):
            bonds.tie(one, other)
        bonds.tie(kinds[2500], NUMBERS)
        self.assertEqual({bonds.final(kind) for kind in kinds}, {NUMBERS})
        bonds, (a, b) = opened(2)
        bonds.tie(listed(a, 5000), listed(b, 5001))
        self.assertEqual(bonds.final(a), NUMBERS)
        self.refused(bonds, listed(a, 3000), listed(b, 3000))


class AnyTiesTest(BondsTest):
    """Holds Bonds to what replacing each open kind tells."""

    def any_kind(self, chance, depth, kinds):
        if depth == 1 or chance.random() < 0.4:
            return chance.choice((NUMBER, TRUTH) + tuple(kinds) * 3)
        if chance.random() < 0.4:
            return ("list", self.any_kind(chance, depth - 1, kinds))
        return fn(self.any_kind(chance, depth - 1, kinds), self.any_kind(chance, depth - 1, kinds))

    def test_any_ties(self):
        chance = seeded(11)
        refused, long = 0, 0
        for many in range(1500):
            bonds, kinds = opened(chance.randint(1, 8))
            plain = PlainBonds()
            for tie in range(chance.randint(1, 8)):
                one, other = self.any_kind(chance, 3, kinds), self.any_kind(chance, 3, kinds)
                if many % 2:
                    # No kind becomes a part of itself here: these grow long.
                    at = tie % len(kinds)
                    one, other = kinds[at], fn(self.any_kind(chance, 3, kinds[at + 1:at + 3]),
                                               self.any_kind(chance, 3, kinds[at + 1:at + 3]))
                try:
                    plain.tie(one, other)
                except Refused:
                    refused += 1
                    self.refused(bonds, one, other)
                    break
                bonds.tie(one, other)
                for kind in kinds + [one, self.any_kind(chance, 3, kinds)]:
                    told = plain.final(kind)
                    if told is None:
                        long += 1
                        self.too_long(bonds, kind)
                    else:
                        self.assertEqual(bonds.final(kind), told)
        self.assertGreater(refused, 300)
        self.assertLess(refused, 1400)
        self.assertGreater(long, 50)


if __name__ == "__main__":
    unittest.main()
