"""Points 15 and 16: rows and fillings."""

import random

from tests.helpers import Case, compare_variables, occurrences, put_in, random_terms, size, tower
from twowaysigns.fillings import composed, fill_row, fill_term

A = ("a",)
B = ("b",)


class FillTest(Case):

    def test_all_at_once(self):
        self.same(("f", "Y", ("g", "X")), fill_term(("f", "X", ("g", "Y")), [("X", "Y"), ("Y", "X")]))
        self.same(("f", ("g", "X"), A), fill_term(("f", "X", "Y"), (("X", ("g", "X")), ("Y", A))))
        self.same(("g", "X"), fill_term(term="X", filling=[("X", ("g", "X"))]))

    def test_other_variables_and_names(self):
        self.same(("p", "X", "X1"), fill_term(("p", "X", "X1"), [("Y", A), ("X01", B), ("X", "X")]))
        self.same(A, fill_term(A, [("X", B)]))
        self.same("X", fill_term("X", []))

    def test_random_terms(self):
        rng = random.Random(1)
        news = random_terms(2, 60, 12)
        for term in random_terms(3, 100, 40, ("X", "Y", "Z", "X1")):
            filling = [(name, rng.choice(news)) for name in rng.sample(["X", "Y", "Z", "X1", "N"], rng.randint(0, 5))]
            self.same(put_in(term, dict(filling)), fill_term(term, filling))

    def test_rows(self):
        row = ["X", ("f", "X", "Y"), A]
        filling = [("Y", "X"), ("X", "Y")]
        self.same(("Y", ("f", "Y", "X"), A), fill_row(row, filling))
        self.same(("Y", ("f", "Y", "X"), A), fill_row(row=tuple(row), filling=tuple(filling)))
        self.assertEqual([["X", ("f", "X", "Y"), A], [("Y", "X"), ("X", "Y")]], [row, filling])
        self.same((A,), fill_row([A], []))

    def test_terms_that_grow_beyond_sixty(self):
        term = ("f", tower(28), tower(28))
        self.assertEqual(59, size(term))
        filled = fill_term(term, [("X", tower(40, "Y"))])
        self.assertEqual(("f", tower(68, "Y"), tower(68, "Y")), filled)
        self.assertEqual(139, size(filled))


class ComposedTest(Case):

    def test_small(self):
        self.same((), composed([], []))
        self.same((("X", A),), composed([("X", A)], []))
        self.same((("X", A),), composed([], [("X", A)]))
        self.same((("X", ("g", A)),), composed([("X", ("g", "X"))], [("X", A)]))
        self.same((("X", A), ("Y", A)), composed(one=[("Y", "X")], two=[("X", A)]))

    def test_variables_that_stay_are_not_named(self):
        self.same((), composed([("X", "X")], [("Y", "Y")]))
        self.same((), composed([("X", "Y"), ("Y", "X")], [("X", "Y"), ("Y", "X")]))
        self.same((("X", "Y"),), composed([("X", "Y")], [("Y", "Y"), ("X", A)]))
        self.same((("Y", "X"),), composed([("X", "Y")], [("Y", "X")]))
        self.same((("X", A),), composed([("X", "X")], [("X", A)]))

    def test_ascending_order_longer_names_behind(self):
        filling = [(name, A) for name in ("X10", "Z", "A1", "B", "X2", "A00000")]
        expected = tuple((name, A) for name in ("B", "Z", "A1", "X2", "X10", "A00000"))
        self.same(expected, composed(filling, []))
        self.same(expected, composed([], filling[::-1]))
        self.same(expected, composed(filling[:3], filling[3:]))

    def test_it_does_what_both_do(self):
        rng = random.Random(4)
        names = ["X", "Y", "Z", "X1", "Z0", "Y10"]
        news = names * 2 + random_terms(5, 20, 8, names)
        terms = names + random_terms(6, 10, 20, names)
        for _ in range(100):
            one = [(name, rng.choice(news)) for name in rng.sample(names, rng.randint(0, 6))]
            two = [(name, rng.choice(news)) for name in rng.sample(names, rng.randint(0, 6))]
            both = composed(rng.choice([one, tuple(one)]), rng.choice([two, tuple(two)]))
            for term in terms:
                self.assertEqual(fill_term(fill_term(term, one), two), fill_term(term, both))
            named = [name for name, _ in both]
            moved = [name for name in names if fill_term(fill_term(name, one), two) != name]
            self.assertEqual(sorted(moved), sorted(named))
            self.assertTrue(all(compare_variables(x, y) < 0 for x, y in zip(named, named[1:])))
            self.only_tuples(both)

    def test_nothing_passed_is_changed(self):
        one = [("Y", "X")]
        two = [("X", A)]
        composed(one, two)
        self.assertEqual([[("Y", "X")], [("X", A)]], [one, two])

    def test_terms_that_grow_beyond_sixty(self):
        both = composed([("X", tower(50))], [("X", tower(50))])
        self.same((("X", tower(100)),), both)
        self.assertEqual(["X"], occurrences(both[0][1]))
