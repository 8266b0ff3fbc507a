"""Point 19: lists of wishes."""

from tests.helpers import SYMBOLS, Case
from twowaysigns.errors import BadAsked
from twowaysigns.signatures import Signature
from twowaysigns.wishes import Wishes

S = Signature(SYMBOLS)
A = ("a",)


class WishesTest(Case):

    def test_fields(self):
        wishes = Wishes(S, ["X", "Y"], [("X", A), (("f", "X", "Y"), "Z")])
        self.assertIs(S, wishes.signature)
        self.same(("X", "Y"), wishes.asked)
        self.same((("X", A), (("f", "X", "Y"), "Z")), wishes.pairs)
        wishes = Wishes(signature=S, asked=("X",), pairs=())
        self.same(("X",), wishes.asked)
        self.same((), wishes.pairs)
        self.same((), wishes.helpers)

    def test_bad_asked(self):
        for bad in ("", "x", "XX", "X ", "X123456", "a", "f", "X", "Y"):
            self.raises(BadAsked, {"index": 2}, Wishes, S, ["X", "Y", bad, "Z"], [])
            self.raises(BadAsked, {"index": 2}, Wishes, S, ("X", "Y", bad, "X"), [])
        for bad in ("", "x", "a"):
            self.raises(BadAsked, {"index": 0}, Wishes, S, [bad], [])
            self.raises(BadAsked, {"index": 0}, Wishes, S, [bad, bad], [])
        self.raises(BadAsked, {"index": 1}, Wishes, S, ["X", "X", ""], [])
        self.raises(BadAsked, {"index": 3}, Wishes, S, ["X", "X1", "X01", "X1"], [])

    def test_variables_of_one_and_six_characters(self):
        self.same(("X", "X12345", "X0", "X00"), Wishes(S, ["X", "X12345", "X0", "X00"], []).asked)

    def test_helpers_in_the_order_of_first_occurrences(self):
        pairs = [(("f", "Z", "X"), ("p", "W", "Z")), ("Y", ("g", "V")), (("f", "A", "W"), "B")]
        self.same(("Z", "W", "V", "A", "B"), Wishes(S, ["Y", "X"], pairs).helpers)
        self.same(("Z", "X", "W", "Y", "V", "A", "B"), Wishes(S, ["N"], pairs).helpers)
        self.same((), Wishes(S, ["X", "Y"], [("X", "Y")]).helpers)

    def test_fields_stay_when_what_was_passed_is_changed(self):
        asked, pairs = ["X"], [("X", "Z")]
        wishes = Wishes(S, asked, pairs)
        self.assertEqual([["X"], [("X", "Z")]], [asked, pairs])
        asked.append("Z")
        pairs.append(("W", A))
        pairs[0] = ("Q", "Q")
        self.same(("X",), wishes.asked)
        self.same((("X", "Z"),), wishes.pairs)
        self.same(("Z",), wishes.helpers)
