"""Point 14: shelves."""

import random

from tests.helpers import (SYMBOLS, TWO_SIGNS, Case, alike_by_words, at, comb, every_place, least_by_search,
                           meeting_places, occurrences, put_in, random_terms, size, tower)
from twowaysigns.errors import NoTerm, TooLarge, UnknownName, WrongCount
from twowaysigns.shelves import Shelf
from twowaysigns.sides import least_writing
from twowaysigns.signatures import Signature

S = Signature(SYMBOLS)
A = ("a",)
B = ("b",)


def shelf_with(*terms):
    """Return a shelf and the numbers of the terms that were put there."""
    shelf = Shelf(S)
    return shelf, [shelf.put_term(term) for term in terms]


class PutTest(Case):

    def test_a_new_shelf(self):
        shelf = Shelf(signature=S)
        self.assertIs(S, shelf.signature)
        self.assertEqual(0, len(shelf))

    def test_new_terms_get_the_next_number(self):
        shelf = Shelf(S)
        self.assertEqual(0, shelf.put("X"))
        self.assertEqual(1, shelf.put("a"))
        self.assertEqual(2, shelf.put("f", 0, 1))
        self.assertEqual(3, shelf.put("g", 2))
        self.assertEqual(4, shelf.put("p", 3, 3))
        self.assertEqual(5, len(shelf))

    def test_terms_that_are_there_or_alike(self):
        shelf = Shelf(S)
        for name in ("X", "Y"):
            shelf.put(name)
        self.assertEqual(2, shelf.put("f", 1, 0))
        self.assertEqual(2, shelf.put("f", 0, 1))
        self.assertEqual(2, shelf.put("f", 1, 0))
        self.assertEqual(3, shelf.put("p", 1, 0))
        self.assertEqual(4, shelf.put("p", 0, 1))
        self.assertEqual(3, shelf.put("p", 1, 0))
        self.assertEqual(5, shelf.put("f", 2, 0))
        self.assertEqual(5, shelf.put("f", 0, 2))
        self.assertEqual(0, shelf.put("X"))
        self.assertEqual(6, len(shelf))

    def test_two_two_way_symbols(self):
        shelf = Shelf(Signature(TWO_SIGNS))
        self.assertEqual([0, 1], [shelf.put("X"), shelf.put("Y")])
        self.assertEqual([2, 3], [shelf.put("f", 0, 1), shelf.put("h", 0, 1)])
        self.assertEqual([2, 3], [shelf.put("f", 1, 0), shelf.put("h", 1, 0)])
        self.assertEqual(("h", "X", "Y"), shelf.term(3))

    def test_unknown_names(self):
        shelf, _ = shelf_with("X")
        for name in ("", "c", "x", "X ", "X1234567", "XX", "f1", "A B", "("):
            self.raises(UnknownName, {"name": name}, shelf.put, name)
            self.raises(UnknownName, {"name": name}, shelf.put, name, 0, 99, -1)
        self.assertEqual(1, len(shelf))

    def test_wrong_counts(self):
        shelf, _ = shelf_with("X", A)
        for name, arity in (("X", 0), ("Z", 0), ("a", 0), ("b", 0), ("g", 1), ("f", 2), ("p", 2)):
            for count in range(5):
                if count != arity:
                    self.raises(WrongCount, {"name": name, "count": count}, shelf.put, name, *[0] * count)
                    self.raises(WrongCount, {"name": name, "count": count}, shelf.put, name, *[-7] * count)
        self.assertEqual(2, len(shelf))

    def test_numbers_of_no_term(self):
        shelf, _ = shelf_with("X", A)
        for bad in (-1, -2, 2, 3, 10 ** 30, -10 ** 30):
            self.raises(NoTerm, {"number": bad}, shelf.put, "g", bad)
            self.raises(NoTerm, {"number": bad}, shelf.put, "f", 0, bad)
            self.raises(NoTerm, {"number": bad}, shelf.put, "p", bad, 0)
            self.raises(NoTerm, {"number": bad}, shelf.put, "f", bad, 77)
        self.raises(NoTerm, {"number": 77}, shelf.put, "f", 77, -1)
        self.raises(NoTerm, {"number": 0}, Shelf(S).put, "g", 0)

    def test_a_refused_put_changes_nothing(self):
        shelf, _ = shelf_with("X", A)
        for args in (("c",), ("X", 0), ("f", 0), ("f", 0, 2), ("b", 1), ("f", 5, 5)):
            with self.assertRaises((UnknownName, WrongCount, NoTerm)):
                shelf.put(*args)
            self.assertEqual(2, len(shelf))
        self.assertEqual(2, shelf.put("b"))

    def test_put_by_name(self):
        shelf = Shelf(S)
        self.assertEqual(0, shelf.put(name="X"))
        self.assertEqual(1, shelf.put_term(term=A))
        self.assertEqual(1, shelf.full_size(number=1))
        self.assertEqual(0, shelf.uneven_count(number=1))
        self.assertEqual(0, shelf.even_count(number=1))
        self.assertEqual((1,), shelf.parts(number=1))
        self.assertEqual(A, shelf.term(number=1))
        self.assertEqual(1, shelf.filled(number=0, filling=[("X", 1)]))


class PutTermTest(Case):

    def test_parts_from_left_to_right_before_the_application(self):
        shelf = Shelf(S)
        self.assertEqual(6, shelf.put_term(("f", ("g", ("p", "X", A)), ("f", "Y", "X"))))
        written = [shelf.term(number) for number in range(7)]
        self.assertEqual(["X", A, ("p", "X", A), ("g", ("p", "X", A)), "Y", ("f", "X", "Y")], written[:6])
        self.assertEqual(7, len(shelf))

    def test_parts_that_are_there(self):
        shelf, numbers = shelf_with(B, ("f", A, B), ("f", B, A), ("p", ("f", A, B), ("f", B, A)), "X")
        self.assertEqual([0, 2, 2, 3, 4], numbers)
        self.assertEqual(5, len(shelf))

    def test_alike_exactly_if_the_numbers_are_equal(self):
        terms = random_terms(1, 60, 9, ("X", "Y"))
        shelf, numbers = shelf_with(*terms)
        for one, first in zip(terms, numbers):
            for two, second in zip(terms, numbers):
                self.assertEqual(alike_by_words(one, two), first == second)
        self.assertEqual(set(range(len(shelf))), set(numbers) | set(range(len(shelf))))

    def test_numbers_rise_by_one(self):
        for term in random_terms(2, 40, 30):
            shelf = Shelf(S)
            number = shelf.put_term(term)
            self.assertEqual(len(shelf) - 1, number)
            self.assertEqual(tuple(range(len(shelf))), shelf.parts(number))
            self.assertEqual(number, shelf.put_term(term))
            self.assertEqual(number + 1, len(shelf))


class CountsTest(Case):

    def test_counts_of_small_terms(self):
        for term in random_terms(3, 100, 40, ("X", "Y")):
            shelf, (number,) = shelf_with(term)
            even = [place for place in meeting_places(term) if alike_by_words(*at(term, place)[1:])]
            self.assertEqual(size(term), shelf.full_size(number))
            self.assertEqual(len(even), shelf.even_count(number))
            self.assertEqual(len(meeting_places(term)) - len(even), shelf.uneven_count(number))

    def test_enormous_terms(self):
        shelf = Shelf(S)
        shelf.put("X")
        shelf.put("Y")
        newest = shelf.put("f", 0, 1)
        for step in range(1, 290):
            newest = shelf.put("f" if step % 2 else "p", newest, newest)
        self.assertEqual(292, len(shelf))
        self.assertEqual(2 ** 291 - 1, shelf.full_size(newest))
        self.assertEqual(2 ** 289, shelf.uneven_count(newest))
        self.assertEqual(sum(2 ** (289 - step) for step in range(1, 290) if step % 2), shelf.even_count(newest))
        self.assertEqual(tuple(range(292)), shelf.parts(newest))
        self.raises(TooLarge, {"size": 2 ** 291 - 1}, shelf.term, newest)
        self.assertEqual(newest, shelf.put("p" if newest % 2 == 0 else "f", newest - 1, newest - 1))

    def test_enormous_terms_are_filled(self):
        shelf = Shelf(S)
        newest = shelf.put("X")
        for _ in range(140):
            newest = shelf.put("f", newest, newest)
        constant = shelf.put("a")
        filled = shelf.filled(newest, [("X", constant)])
        self.assertEqual(282, len(shelf))
        self.assertEqual(281, filled)
        self.assertEqual(2 ** 141 - 1, shelf.full_size(filled))
        self.assertEqual(2 ** 140 - 1, shelf.even_count(filled))
        self.assertEqual(filled, shelf.filled(newest, [("X", constant)]))
        self.assertEqual(282, len(shelf))

    def test_parts(self):
        shelf, numbers = shelf_with("Z", ("f", ("g", "X"), ("p", A, ("g", "X"))), B, ("g", A))
        self.assertEqual([0, 5, 6, 7], numbers)
        self.same((0,), shelf.parts(0))
        self.same((1, 2, 3, 4, 5), shelf.parts(5))
        self.same((6,), shelf.parts(6))
        self.same((3, 7), shelf.parts(7))

    def test_term_is_the_least_writing(self):
        for term in random_terms(4, 60, 11, ("X", "Y")):
            shelf, (number,) = shelf_with(term)
            self.same(least_by_search(term), shelf.term(number))
        shelf, _ = shelf_with(B, A, "Y", "X")
        self.same(("f", "X", "Y"), shelf.term(shelf.put("f", 2, 3)))
        self.same(("p", B, ("f", A, B)), shelf.term(shelf.put("p", 0, shelf.put("f", 0, 1))))

    def test_a_size_of_sixty_and_more(self):
        shelf, numbers = shelf_with(tower(59), comb("f", [B, A] * 15), ("g", tower(59)), comb("p", ["X"] * 31))
        self.assertEqual([60, 59, 61, 61], [shelf.full_size(number) for number in numbers])
        self.assertEqual(tower(59), shelf.term(numbers[0]))
        self.assertEqual(least_writing(S, comb("f", [B, A] * 15)), shelf.term(numbers[1]))
        self.raises(TooLarge, {"size": 61}, shelf.term, numbers[2])
        self.raises(TooLarge, {"size": 61}, shelf.term, numbers[3])

    def test_numbers_of_no_term(self):
        shelf, _ = shelf_with(("f", "X", A))
        for bad in (-1, -3, 3, 4, 10 ** 30):
            for method in (shelf.full_size, shelf.uneven_count, shelf.even_count, shelf.parts, shelf.term):
                self.raises(NoTerm, {"number": bad}, method, bad)
            self.raises(NoTerm, {"number": bad}, shelf.filled, bad, [("X", -5), ("Y", 9)])
            self.raises(NoTerm, {"number": bad}, shelf.filled, 2, [("X", 0), ("Y", bad), ("Z", 99)])
            self.raises(NoTerm, {"number": bad}, shelf.filled, 1, (("N", bad),))
        self.assertEqual(3, len(shelf))


class FilledTest(Case):

    def test_against_filling_the_written_term(self):
        rng = random.Random(5)
        for term in random_terms(6, 80, 12):
            shelf, (number, one, two) = shelf_with(term, ("g", "Y"), ("f", "X", B))
            filling = rng.sample([("X", one), ("Y", two), ("Z", one), ("N", two), ("X1", one)], rng.randint(0, 5))
            table = {variable: shelf.term(new) for variable, new in filling}
            result = shelf.filled(number, filling)
            self.assertTrue(alike_by_words(put_in(term, table), shelf.term(result)))

    def test_all_at_once(self):
        shelf, (number, x, y) = shelf_with(("p", "X", ("g", "Y")), "X", "Y")
        exchanged = shelf.filled(number, [("X", y), ("Y", x)])
        self.same(("p", "Y", ("g", "X")), shelf.term(exchanged))
        self.same("Y", shelf.term(shelf.filled(x, (("X", y), ("Y", x)))))

    def test_the_empty_filling_and_other_variables(self):
        shelf, (number, new) = shelf_with(("p", "X", ("g", A)), B)
        self.assertEqual(number, shelf.filled(number, []))
        self.assertEqual(number, shelf.filled(number, [("Y", new), ("Z", number)]))
        self.assertEqual(number, shelf.filled(number, [("X", shelf.put("X"))]))
        self.assertEqual(5, len(shelf))

    def test_which_terms_are_put_and_in_which_order(self):
        term = ("p", ("p", ("g", "X"), ("g", A)), ("f", ("g", "Y"), ("f", "X", "Y")))
        shelf, (number, new) = shelf_with(term, B)
        self.assertEqual([9, 10], [number, new])
        filled = shelf.filled(number, [("X", new)])
        written = [shelf.term(k) for k in range(11, len(shelf))]
        self.assertEqual([("g", B), ("p", ("g", B), ("g", A)), ("f", "Y", B), ("f", ("f", "Y", B), ("g", "Y")),
                          ("p", ("p", ("g", B), ("g", A)), ("f", ("f", "Y", B), ("g", "Y")))], written)
        self.assertEqual(15, filled)
        self.assertEqual(filled, shelf.filled(number, [("X", new)]))
        self.assertEqual(16, len(shelf))

    def test_terms_that_are_there_already(self):
        shelf, (number, there, new) = shelf_with(("f", ("g", "X"), "X"), ("g", A), A)
        filled = shelf.filled(number, [("X", new)])
        self.assertEqual(5, filled)
        self.assertEqual(6, len(shelf))
        self.same((new, there, filled), shelf.parts(filled))

    def test_nothing_passed_is_changed(self):
        shelf, (number, new) = shelf_with(("g", "X"), A)
        filling = [("X", new), ("Y", number)]
        shelf.filled(number, filling)
        self.assertEqual([("X", new), ("Y", number)], filling)

    def test_parts_of_alike_arguments_that_become_equal(self):
        shelf, (number, new) = shelf_with(("f", ("g", "X"), ("g", "Y")), A)
        filled = shelf.filled(number, [("X", new), ("Y", new)])
        self.assertEqual([1, 0], [shelf.even_count(filled), shelf.uneven_count(filled)])
        self.assertEqual([], occurrences(shelf.term(filled)))
        self.assertEqual([(), (0,), (0, 0), (1,), (1, 0)], every_place(shelf.term(filled)))
