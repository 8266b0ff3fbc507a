"""Points 5 and 6: symbol names, variables and signatures."""

import string

from tests.helpers import SYMBOLS, Case
from twowaysigns.errors import BadSymbol, BadTerm
from twowaysigns.signatures import Signature
from twowaysigns.terms import check_term

PRINTABLE = [chr(code) for code in range(32, 127) if chr(code) != "%"]


def is_accepted_name(name):
    try:
        Signature([(name, 0, False)])
    except BadSymbol:
        return False
    return True


def is_variable(text):
    try:
        check_term(Signature([]), text)
    except BadTerm:
        return False
    return True


class NamesTest(Case):

    def test_lengths_of_symbol_names(self):
        self.assertTrue(is_accepted_name("a"))
        self.assertTrue(is_accepted_name("abcdefgh"))
        self.assertFalse(is_accepted_name("abcdefghi"))
        self.assertFalse(is_accepted_name(""))

    def test_every_sign_in_every_place_of_a_symbol_name(self):
        for sign in PRINTABLE:
            first = sign in string.ascii_lowercase
            later = first or sign in string.digits
            self.assertEqual(first, is_accepted_name(sign), sign)
            self.assertEqual(first, is_accepted_name(sign + "a1"), sign)
            self.assertEqual(later, is_accepted_name("a" + sign), sign)
            self.assertEqual(later, is_accepted_name("a" + sign + "b"), sign)
            self.assertEqual(later, is_accepted_name("abcdefg" + sign), sign)

    def test_lengths_of_variables(self):
        self.assertTrue(is_variable("X"))
        self.assertTrue(is_variable("X12345"))
        self.assertFalse(is_variable("X123456"))
        self.assertFalse(is_variable(""))

    def test_every_sign_in_every_place_of_a_variable(self):
        for sign in PRINTABLE:
            first = sign in string.ascii_uppercase
            later = sign in string.digits
            self.assertEqual(first, is_variable(sign), sign)
            self.assertEqual(first, is_variable(sign + "01"), sign)
            self.assertEqual(later, is_variable("X" + sign), sign)
            self.assertEqual(later, is_variable("X" + sign + "1"), sign)
            self.assertEqual(later, is_variable("X1234" + sign), sign)


class SignatureTest(Case):

    def test_symbols_are_kept_as_tuples(self):
        self.same(tuple(SYMBOLS), Signature(SYMBOLS).symbols)
        self.same(tuple(SYMBOLS), Signature(tuple(SYMBOLS)).symbols)
        self.same(tuple(SYMBOLS), Signature(symbols=SYMBOLS).symbols)

    def test_no_symbols_and_twelve(self):
        self.same((), Signature([]).symbols)
        self.assertIsNone(Signature([]).arity("a"))
        twelve = [(f"s{k}", k % 3, k % 3 == 2) for k in range(12)]
        signature = Signature(twelve)
        self.same(tuple(twelve), signature.symbols)
        self.assertEqual(list(range(12)), [signature.rank(f"s{k}") for k in range(12)])

    def test_arities_and_two_way(self):
        for arity in (-10 ** 30, -1, 0, 1, 2, 3, 10 ** 30):
            for two_way in (False, True):
                symbols = [("a", 0, False), ("s", arity, two_way)]
                if arity == 2 or arity in (0, 1) and not two_way:
                    signature = Signature(symbols)
                    self.assertEqual(arity, signature.arity("s"))
                    self.assertIs(two_way, signature.is_two_way("s"))
                else:
                    self.raises(BadSymbol, {"index": 1}, Signature, symbols)

    def test_a_name_that_stands_before(self):
        self.raises(BadSymbol, {"index": 2}, Signature, [("a", 0, False), ("b", 0, False), ("a", 1, False)])
        self.raises(BadSymbol, {"index": 1}, Signature, [("a", 0, False), ("a", 0, False)])

    def test_the_first_bad_triple_is_told(self):
        bad = [("A", 0, False), ("", 0, False), ("c", 3, False), ("c", 0, True), ("c", 1, True), ("a", 0, False)]
        for one in bad:
            for two in bad:
                self.raises(BadSymbol, {"index": 1}, Signature, [("a", 0, False), one, ("b", 0, False), two])
        self.raises(BadSymbol, {"index": 0}, Signature, (("a", 3, False), ("a", 0, False)))

    def test_arity_rank_and_two_way_of_symbols(self):
        signature = Signature(SYMBOLS)
        self.assertEqual([0, 0, 2, 1, 2], [signature.arity(name) for name in "abfgp"])
        self.assertEqual([0, 1, 2, 3, 4], [signature.rank(name) for name in "abfgp"])
        self.assertEqual([False, False, True, False, False], [signature.is_two_way(name) for name in "abfgp"])
        self.assertEqual(2, signature.arity(name="f"))
        self.assertEqual(2, signature.rank(name="f"))
        self.assertIs(True, signature.is_two_way(name="f"))

    def test_strings_that_are_no_symbol(self):
        signature = Signature(SYMBOLS)
        for name in ("", "X", "c", "ff", "f ", "F", "(", "0", "a" * 200):
            self.assertIsNone(signature.arity(name))
            self.assertIsNone(signature.rank(name))
            self.assertIs(False, signature.is_two_way(name))

    def test_equality(self):
        one = Signature(SYMBOLS)
        two = Signature(tuple(SYMBOLS))
        self.assertIs(True, one == two)
        self.assertIs(False, one != two)
        for other in (SYMBOLS[:4], SYMBOLS[::-1], [], [("a", 0, False)], SYMBOLS[:2] + [("f", 2, False)] + SYMBOLS[3:]):
            self.assertIs(False, one == Signature(other))
            self.assertIs(True, one != Signature(other))
        self.assertIs(True, Signature([]) == Signature(()))

    def test_a_value_that_is_no_signature(self):
        one = Signature(SYMBOLS)
        for other in (None, 0, "a", (), tuple(SYMBOLS), SYMBOLS, one.symbols):
            self.assertIs(False, one == other)
            self.assertIs(True, one != other)

    def test_what_is_passed_is_copied_and_not_changed(self):
        symbols = list(SYMBOLS)
        signature = Signature(symbols)
        self.assertEqual(SYMBOLS, symbols)
        symbols.append(("q", 0, False))
        symbols[0] = ("z", 1, False)
        self.same(tuple(SYMBOLS), signature.symbols)
        self.assertIsNone(signature.rank("q"))
        self.assertEqual(0, signature.arity("a"))
        self.assertTrue(signature == Signature(SYMBOLS))
