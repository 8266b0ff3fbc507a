"""Points 58, 59 and 60: desks, trials and scripts."""

import itertools
import random

from tests.helpers import SYMBOLS, Case, all_terms, meets_by_words, occurrences
from twowaysigns.books import Book
from twowaysigns.desks import Desk, Trial, perform, perform_within
from twowaysigns.errors import BadAsked, BadMark, NoRowLeft, UnknownVariable
from twowaysigns.layers import Layers
from twowaysigns.sayings import Saying
from twowaysigns.signatures import Signature
from twowaysigns.solving import widest
from twowaysigns.wishes import Wishes

S = Signature(SYMBOLS)
A = ("a",)
B = ("b",)
FEW = [("f", 2, True), ("g", 1, False)]
TERMS = all_terms(3, ["X", "Y", A, B])
ROWS = list(itertools.product(all_terms(3, ["Z", A], FEW), all_terms(3, ["Z", A, B], FEW)))
XY = (("f", "X", "Y"), ("f", A, B))


class DeskCase(Case):
    """What every desk must tell."""

    def stands(self, desk, deeds, rows=()):
        """Check what the desk tells of its deeds, of its book and of its layers."""
        self.same(tuple(deeds), desk.deeds)
        self.same(len(deeds), desk.mark())
        wishes = [deed[1:] for deed in deeds if deed[0] == "wish"]
        bars = [deed[1:] for deed in deeds if deed[0] == "bar"]
        self.assertEqual(widest(Wishes(S, desk.asked, wishes)), desk.book)
        saying = Saying(Wishes(S, desk.asked, wishes))
        for bar in bars:
            saying = ~Saying(Wishes(S, desk.asked, [bar])) & saying
        self.assertEqual(Layers.of(saying), desk.layers)
        self.assertIs(False, desk.layers.is_empty)
        for row in rows:
            is_wished = meets_by_words(desk.asked, wishes, row)
            self.assertIs(is_wished, row in desk.book)
            is_barred = any(meets_by_words(desk.asked, [bar], row) for bar in bars)
            self.assertIs(is_wished and not is_barred, row in desk.layers)

    def new(self):
        return Desk(S, ["X", "Y"])


class DeskTest(DeskCase):

    def test_fields(self):
        asked = ["X", "Y1"]
        for desk in (Desk(S, asked), Desk(signature=S, asked=tuple(asked))):
            self.assertIs(S, desk.signature)
            self.same(("X", "Y1"), desk.asked)
            self.same((), desk.deeds)
            self.same(0, desk.mark())
        desk = Desk(S, asked)
        asked[0] = "Z"
        self.same(("X", "Y1"), desk.asked)

    def test_bad_asked(self):
        for index, asked in [(0, ["x"]), (0, [""]), (1, ["X", "X"]), (1, ["X", "a", "X"]), (2, ["X", "Y", "X", "Y"]),
                             (3, ["X", "Y", "Z", "XX"]), (0, ["X123456"])]:
            self.raises(BadAsked, {"index": index}, Desk, S, asked)
            self.raises(BadAsked, {"index": index}, Desk, signature=S, asked=tuple(asked))

    def test_without_deeds(self):
        for asked in (["X"], ["X", "Y"], ["X", "Y", "Z", "X1"]):
            desk = Desk(S, asked)
            everything = Book.everything(S, len(asked))
            self.assertEqual(everything, desk.book)
            self.assertEqual(Layers(S, len(asked), [everything]), desk.layers)
        self.stands(self.new(), [], ROWS[:40])

    def test_wishes_and_bars(self):
        desk = self.new()
        self.assertIsNone(desk.wish(*XY))
        self.stands(desk, [("wish", *XY)], ROWS[:60] + [(A, B), (B, A)])
        self.same(((A, B), (B, A)), desk.book.rows)
        self.assertIsNone(desk.bar(one="Y", two=B))
        self.stands(desk, [("wish", *XY), ("bar", "Y", B)], [(A, B), (B, A), (A, A)])
        self.same(((A, B), (B, A)), desk.book.rows)
        self.assertEqual(Layers(S, 2, [Book(S, 2, [(B, A)])]), desk.layers)
        self.assertIsNone(desk.wish(one="X", two=B))
        self.stands(desk, [("wish", *XY), ("bar", "Y", B), ("wish", "X", B)])
        self.same(((B, A),), desk.book.rows)

    def test_bars_alone(self):
        desk = self.new()
        desk.bar("X", "Y")
        desk.bar("X", ("g", "Y"))
        self.stands(desk, [("bar", "X", "Y"), ("bar", "X", ("g", "Y"))], ROWS)
        self.assertEqual(Book.everything(S, 2), desk.book)
        self.assertIs(False, (A, A) in desk.layers)
        self.assertIs(True, (A, ("g", A)) in desk.layers)
        self.assertIs(False, (("g", A), A) in desk.layers)

    def test_unknown_variables(self):
        for one, two, variable in [("Z", "X", "Z"), ("X", "Z", "Z"), (("f", "X", "Z"), "W", "Z"), (A, ("g", "W"), "W"),
                                   (("p", "X1", "Y1"), "Z", "X1"), (("f", "Y", "X"), ("f", "W", "Z"), "W"),
                                   (("g", "X0"), ("g", "X"), "X0")]:
            desk = self.new()
            desk.wish(*XY)
            for deed in (desk.wish, desk.bar):
                self.raises(UnknownVariable, {"variable": variable}, deed, one, two)
                self.raises(UnknownVariable, {"variable": variable}, deed, one=one, two=two)
            self.stands(desk, [("wish", *XY)])

    def test_no_row_left(self):
        desk = self.new()
        for one, two in [(A, B), ("X", ("g", "X")), (("g", "X"), ("f", "X", "Y"))]:
            self.raises(NoRowLeft, {}, desk.wish, one, two)
        for one, two in [(A, A), ("X", "X"), (("f", A, "Y"), ("f", "Y", A))]:
            self.raises(NoRowLeft, {}, desk.bar, one, two)
        self.stands(desk, [])
        desk.wish(*XY)
        self.raises(NoRowLeft, {}, desk.wish, "X", ("g", "Y"))
        desk.bar("X", A)
        self.raises(NoRowLeft, {}, desk.bar, "X", B)
        self.raises(NoRowLeft, {}, desk.wish, "Y", B)
        self.stands(desk, [("wish", *XY), ("bar", "X", A)])
        # Each part may be fine alone.
        desk = self.new()
        desk.bar("X", "Y")
        self.raises(NoRowLeft, {}, desk.wish, "X", "Y")
        desk.wish(("g", "X"), ("g", A))
        self.raises(NoRowLeft, {}, desk.wish, "Y", "X")
        self.stands(desk, [("bar", "X", "Y"), ("wish", ("g", "X"), ("g", A))], ROWS[:50])

    def test_an_unknown_variable_comes_first(self):
        self.raises(UnknownVariable, {"variable": "Z"}, self.new().wish, A, ("f", "Z", B))
        self.raises(UnknownVariable, {"variable": "Z"}, self.new().bar, "Z", "Z")

    def test_mark_and_back(self):
        desk = self.new()
        marks = [desk.mark()]
        for pair in [XY, ("X", B)]:
            desk.wish(*pair)
            marks.append(desk.mark())
        desk.bar("Y", B)
        self.assertEqual([0, 1, 2], marks)
        self.assertIsNone(desk.back(3))
        self.stands(desk, [("wish", *XY), ("wish", "X", B), ("bar", "Y", B)])
        self.assertIsNone(desk.back(mark=1))
        self.stands(desk, [("wish", *XY)], [(A, B), (B, A)])
        desk.wish("X", A)
        self.stands(desk, [("wish", *XY), ("wish", "X", A)], [(A, B), (B, A)])
        desk.back(0)
        self.stands(desk, [], ROWS[:20])

    def test_bad_marks(self):
        desk = self.new()
        for bad in (-1, 1, 2, -10 ** 30, 10 ** 30):
            self.raises(BadMark, {"mark": bad}, desk.back, bad)
        desk.wish(*XY)
        desk.bar("X", A)
        for bad in (-1, -2, 3, 4):
            self.raises(BadMark, {"mark": bad}, desk.back, mark=bad)
        self.stands(desk, [("wish", *XY), ("bar", "X", A)])

    def test_five_deeds_and_two_desks(self):
        one, two = self.new(), self.new()
        deeds = [("bar", "X", A), ("bar", "Y", A), ("bar", "X", B), ("bar", "X", "Y"), ("wish", "X", ("g", "Y"))]
        for word, first, second in deeds:
            (one.wish if word == "wish" else one.bar)(first, second)
        self.stands(one, deeds, ROWS)
        self.stands(two, [])

    def test_what_is_given_stays_as_it_was(self):
        desk = self.new()
        desk.wish(*XY)
        deeds, book, layers = desk.deeds, desk.book, desk.layers
        desk.bar("X", A)
        desk.back(0)
        self.same((("wish", *XY),), deeds)
        self.same(((A, B), (B, A)), book.rows)
        self.assertEqual(Layers(S, 2, [book]), layers)


class TrialTest(DeskCase):

    def test_what_was_done_is_taken_back(self):
        desk = self.new()
        desk.wish(*XY)
        with Trial(desk):
            desk.wish("X", A)
            self.stands(desk, [("wish", *XY), ("wish", "X", A)])
        self.stands(desk, [("wish", *XY)], [(A, B), (B, A)])
        with Trial(desk=desk):
            pass
        self.stands(desk, [("wish", *XY)])

    def test_creating_one_has_no_effect(self):
        desk = self.new()
        trial = Trial(desk)
        self.assertIs(desk, trial.desk)
        desk.wish(*XY)
        with trial:
            desk.bar("X", A)
        self.stands(desk, [("wish", *XY)])
        Trial(desk)
        self.stands(desk, [("wish", *XY)])

    def test_deeds_that_were_taken_back_stay_so(self):
        desk = self.new()
        desk.wish(*XY)
        desk.bar("X", A)
        with Trial(desk):
            desk.back(1)
            desk.bar("Y", A)
            self.stands(desk, [("wish", *XY), ("bar", "Y", A)])
        self.stands(desk, [("wish", *XY)])
        with Trial(desk):
            desk.wish("X", A)
            desk.back(1)
            desk.wish("X", B)
        self.stands(desk, [("wish", *XY)])
        with Trial(desk):
            desk.back(0)
        self.stands(desk, [])

    def test_an_error_leaves_the_block(self):
        desk = self.new()
        trial = Trial(desk)
        for error in (KeyError("x"), BadMark(3)):
            with self.assertRaises(error.__class__) as caught:
                with trial:
                    desk.wish(*XY)
                    raise error
            self.assertIs(error, caught.exception)
            self.stands(desk, [])
        with self.assertRaises(NoRowLeft):
            with Trial(desk):
                desk.wish(*XY)
                desk.wish("X", ("g", A))
        self.stands(desk, [])

    def test_entered_again(self):
        desk = self.new()
        trial = Trial(desk)
        with trial:
            desk.wish(*XY)
        desk.bar("X", A)
        with self.assertRaises(KeyError):
            with trial:
                desk.bar("Y", A)
                raise KeyError
        self.stands(desk, [("bar", "X", A)])
        with trial:
            desk.back(0)
            desk.wish(*XY)
        self.stands(desk, [])
        desk.wish(*XY)
        with trial:
            desk.bar("Y", A)
        self.stands(desk, [("wish", *XY)])

    def test_nested(self):
        desk = self.new()
        outer, inner = Trial(desk), Trial(desk)
        desk.bar("X", A)
        with outer:
            desk.bar("X", B)
            with inner:
                desk.bar("Y", A)
                with Trial(desk):
                    desk.bar("Y", B)
                    self.same(4, desk.mark())
                self.stands(desk, [("bar", "X", A), ("bar", "X", B), ("bar", "Y", A)])
            self.stands(desk, [("bar", "X", A), ("bar", "X", B)])
            with inner:
                desk.back(1)
                desk.bar("X", "Y")
                desk.bar("X", B)
            self.stands(desk, [("bar", "X", A)])
            desk.bar("Y", B)
            desk.bar("Y", A)
        self.stands(desk, [("bar", "X", A)])
        with outer:
            with inner:
                desk.back(0)
                desk.bar("X", "Y")
            desk.bar("X", B)
            self.stands(desk, [("bar", "X", B)])
        self.stands(desk, [])

    def test_as_the_block_goes_on_other_trials_count_on(self):
        desk = self.new()
        for pair in [("X", A), ("X", B), ("Y", A)]:
            desk.bar(*pair)
        with Trial(desk):
            with Trial(desk):
                desk.back(1)
                desk.bar("X", "Y")
            desk.back(1)
            desk.bar("Y", B)
            with Trial(desk):
                desk.bar("X", B)
            self.stands(desk, [("bar", "X", A), ("bar", "Y", B)])
        self.stands(desk, [("bar", "X", A)])

    def test_trials_of_two_desks(self):
        one, two = self.new(), self.new()
        with Trial(one), Trial(two):
            one.bar("X", A)
            two.bar("X", B)
            with Trial(one):
                one.back(0)
                two.bar("Y", B)
            self.stands(two, [("bar", "X", B), ("bar", "Y", B)])
        self.stands(one, [])
        self.stands(two, [])

    def test_random_deeds(self):
        rng = random.Random(5901)
        self.counts = {"wish": 0, "bar": 0, "unknown": 0, "no row": 0, "bad mark": 0, "trial": 0}
        for _ in range(150):
            desk = self.new()
            trials = [[Trial(desk), Trial(desk)] for _ in range(4)]
            self.play(rng, desk, trials, [])
        self.assertGreater(min(self.counts.values()), 10, self.counts)

    def play(self, rng, desk, trials, model):
        """Do random deeds on the desk and on the list of deeds; return the smallest number of deeds that stood."""
        lowest = len(model)
        for _ in range(rng.randint(1, 5)):
            choice = rng.random()
            if choice < 0.6 and len(model) < 5:
                self.do(rng, desk, model)
            elif choice < 0.8:
                mark = rng.randint(-1, len(model) + 1)
                if 0 <= mark <= len(model):
                    desk.back(mark)
                    del model[mark:]
                else:
                    self.counts["bad mark"] += 1
                    self.raises(BadMark, {"mark": mark}, desk.back, mark)
            elif trials:
                self.counts["trial"] += 1
                try:
                    with rng.choice(trials[0]):
                        below = self.play(rng, desk, trials[1:], model)
                        if rng.random() < 0.3:
                            raise KeyError
                except KeyError:
                    pass
                del model[below:]
            lowest = min(lowest, len(model))
            self.stands(desk, model, rng.sample(ROWS, 3))
        return lowest

    def do(self, rng, desk, model):
        word, one, two = rng.choice(["wish", "bar"]), rng.choice(TERMS), rng.choice(TERMS + [("g", "Z"), ("f", "X", "W")])
        before = desk.deeds, desk.book, desk.layers
        unknown = [name for name in occurrences(one) + occurrences(two) if name not in ("X", "Y")]
        try:
            (desk.wish if word == "wish" else desk.bar)(one, two)
        except UnknownVariable as error:
            self.counts["unknown"] += 1
            self.assertEqual(unknown[0], error.variable)
        except NoRowLeft:
            self.counts["no row"] += 1
            self.assertEqual([], unknown)
            wishes = [deed[1:] for deed in model + [(word, one, two)] if deed[0] == "wish"]
            bars = [deed[1:] for deed in model + [(word, one, two)] if deed[0] == "bar"]
            for row in rng.sample(ROWS, 10):
                self.assertTrue(not meets_by_words(desk.asked, wishes, row)
                                or any(meets_by_words(desk.asked, [bar], row) for bar in bars))
        else:
            self.counts[word] += 1
            self.assertEqual([], unknown)
            model.append((word, one, two))
            return
        self.assertEqual(before, (desk.deeds, desk.book, desk.layers))


class PerformTest(DeskCase):

    def does(self, outcomes, script, deeds, strict=False):
        """Check the outcomes of a script on a new desk, and the deeds that stand behind it."""
        for passed in (list(script), tuple(script)):
            desk = self.new()
            self.same(outcomes, perform(desk, passed, strict=strict))
            self.stands(desk, deeds)
            desk = self.new()
            self.same(outcomes, perform(desk=desk, script=passed, strict=strict))
            desk = self.new()
            self.same(outcomes, perform_within(Trial(desk), passed, strict=strict))
            self.stands(desk, [])
            self.same((outcomes,), perform(desk, [("trial", tuple(passed))], strict=strict))
            self.stands(desk, [])
        self.assertEqual(list(script), list(passed))

    def test_the_example(self):
        script = [("wish", *XY), ("trial", (("bar", "X", A), ("wish", "Y", B))), ("back", 2), ("bar", "Y", B)]
        desk = Desk(S, ["X", "Y"])
        self.same(("done", ("done", "no row"), "bad mark", "done"), perform(desk, script))
        self.stands(desk, [("wish", *XY), ("bar", "Y", B)])
        self.does(("done", ("done", "no row"), "bad mark", "done"), script, [("wish", *XY), ("bar", "Y", B)])

    def test_outcomes(self):
        self.does((), [], [])
        self.does(((),), [("trial", ())], [])
        self.does(("done", "unknown", "unknown", "no row", "no row", "bad mark", "bad mark", "done"),
                  [("bar", "X", "Y"), ("wish", "X", "Z"), ("bar", "Z", "Z"), ("wish", "X", "Y"), ("bar", "X", "X"),
                   ("back", 2), ("back", -1), ("wish", "Y", A)], [("bar", "X", "Y"), ("wish", "Y", A)])
        self.does(("done", "done", "done", "done"), [("wish", *XY), ("bar", "X", A), ("back", 0), ("bar", "Y", B)],
                  [("bar", "Y", B)])
        self.does(("done", "done", "done"), [("wish", *XY), ("bar", "X", A), ("back", 2)],
                  [("wish", *XY), ("bar", "X", A)])

    def test_nested_trials(self):
        script = [("bar", "X", A),
                  ("trial", (("bar", "X", B),
                             ("trial", (("bar", "Y", A), ("trial", (("back", 1), ("bar", "X", "Y"))), ("bar", "X", B))),
                             ("bar", "Y", B))),
                  ("bar", "X", ("g", "Y"))]
        self.does(("done", ("done", ("done", ("done", "done"), "done"), "done"), "done"), script,
                  [("bar", "X", A), ("bar", "X", ("g", "Y"))])
        script = [("bar", "X", A), ("trial", (("trial", (("back", 0), ("bar", "Y", A))), ("back", 1))), ("bar", "X", B)]
        self.does(("done", (("done", "done"), "bad mark"), "done"), script, [("bar", "X", B)])

    def test_strict_without_errors(self):
        self.does(("done", ("done",), "done"), [("wish", *XY), ("trial", (("bar", "X", A),)), ("bar", "X", B)],
                  [("wish", *XY), ("bar", "X", B)], strict=True)
        self.does((), [], [], strict=True)

    def test_strict_with_errors(self):
        for error, fields, item in [(UnknownVariable, {"variable": "Z"}, ("wish", "X", "Z")),
                                    (UnknownVariable, {"variable": "W"}, ("bar", ("f", "X", "W"), "Z")),
                                    (NoRowLeft, {}, ("wish", "X", ("g", A))), (BadMark, {"mark": 7}, ("back", 7)),
                                    (BadMark, {"mark": -1}, ("back", -1))]:
            desk = self.new()
            self.raises(error, fields, perform, desk, [("wish", *XY), item, ("bar", "X", A)], strict=True)
            self.stands(desk, [("wish", *XY)])
            desk = self.new()
            script = (("wish", *XY), ("trial", (("bar", "X", A), item, ("back", 0))), ("back", 0))
            self.raises(error, fields, perform, desk=desk, script=script, strict=True)
            self.stands(desk, [("wish", *XY)])
            desk = self.new()
            script = [("wish", *XY), ("trial", (("bar", "X", A), ("trial", (("trial", (("back", 1), item)),))))]
            self.raises(error, fields, perform, desk, script, strict=True)
            self.stands(desk, [("wish", *XY)])
            trial = Trial(desk)
            for _ in range(2):
                self.raises(error, fields, perform_within, trial, [("bar", "X", A), item], strict=True)
                self.stands(desk, [("wish", *XY)])

    def test_an_error_leaves_what_a_trial_took_back(self):
        desk = self.new()
        script = [("bar", "X", A), ("bar", "X", B), ("trial", (("back", 1), ("bar", "Y", A), ("back", 9)))]
        self.raises(BadMark, {"mark": 9}, perform, desk, script, strict=True)
        self.stands(desk, [("bar", "X", A)])

    def test_strict_is_passed_by_name_only(self):
        with self.assertRaises(TypeError):
            perform(self.new(), [], True)
        with self.assertRaises(TypeError):
            perform_within(Trial(self.new()), [], True)

    def test_within_this_very_trial(self):
        desk = self.new()
        desk.bar("X", A)
        trial = Trial(desk)
        self.same(("done", "bad mark"), perform_within(trial, [("bar", "X", B), ("back", 5)]))
        self.stands(desk, [("bar", "X", A)])
        self.same(("done", ("done",)), perform_within(trial=trial, script=(("back", 0), ("trial", (("wish", *XY),)))))
        self.stands(desk, [])
        with Trial(desk):
            desk.bar("X", A)
            self.same(("done",), perform_within(trial, [("back", 0)]))
            self.stands(desk, [])
            desk.bar("Y", B)
        self.stands(desk, [])

    def test_a_desk_with_deeds(self):
        desk = self.new()
        desk.wish(*XY)
        self.same(("no row", "done", "done"), perform(desk, [("wish", "X", "Y"), ("wish", "X", A), ("back", 1)]))
        self.stands(desk, [("wish", *XY)])
        self.same((("done", "bad mark"),), perform(desk, [("trial", (("back", 0), ("back", 1)))]))
        self.stands(desk, [])

    def test_twelve_items(self):
        script = [("bar", "X", A), ("back", 0)] * 6
        self.does(("done",) * 12, script, [])
