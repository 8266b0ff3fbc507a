"""Desks: wishes and bars, collected one after the other and taken back."""

from twowaysigns.errors import BadMark, NoRowLeft, UnknownVariable
from twowaysigns.layers import layers_of
from twowaysigns.sayings import Saying
from twowaysigns.solving import widest
from twowaysigns.terms import row_variables
from twowaysigns.wishes import Wishes, check_asked

WISH = "wish"
BAR = "bar"


class Desk:
    """The deeds that stand, and what they leave.

    What is kept are triples, one for each number of deeds up to all that stand: the oldest deeds,
    so many of them, the book and the layers that they leave.
    """

    def __init__(self, signature, asked):
        check_asked(asked)
        self.signature = signature
        self.asked = tuple(asked)
        self._kept = (_with_deeds(signature, self.asked, ()),)
        self._trial = None

    @property
    def deeds(self):
        """All deeds that stand, oldest first."""
        return self._kept[-1][0]

    @property
    def book(self):
        """The book of all rows that meet all wishes that stand."""
        return self._kept[-1][1]

    @property
    def layers(self):
        """The set of all rows that meet all wishes that stand, and no bar."""
        return self._kept[-1][2]

    def wish(self, one, two):
        """Add the wish that two terms be alike."""
        self._do((WISH, one, two))

    def bar(self, one, two):
        """Add the bar that two terms be not alike."""
        self._do((BAR, one, two))

    def mark(self):
        """Return the number of deeds that stand."""
        return len(self._kept) - 1

    def back(self, mark):
        """Take back the newest deeds until as many stand as the mark says."""
        if not 0 <= mark < len(self._kept):
            raise BadMark(mark)
        self._kept = self._kept[:mark + 1]
        trial = self._trial
        while trial is not None:
            if len(trial.lowest) > len(self._kept):
                trial.lowest = self._kept
            trial = trial.outer

    def _do(self, deed):
        for variable in row_variables(deed[1:]):
            if variable not in self.asked:
                raise UnknownVariable(variable)
        kept = _with_deeds(self.signature, self.asked, self.deeds + (deed,))
        if kept[2].is_empty:
            raise NoRowLeft()
        self._kept = self._kept + (kept,)


class Trial:
    """Takes back, at the end of a with-block, what was done in it.

    While the block lasts, what the desk kept when the fewest deeds stood is the lowest, and the
    trial in whose block it stands, if there is one, is the outer one.
    """

    def __init__(self, desk):
        self.desk = desk
        self.outer = None
        self.lowest = ()

    def __enter__(self):
        desk = self.desk
        self.outer = desk._trial
        self.lowest = desk._kept
        desk._trial = self
        return self

    def __exit__(self, kind, value, trace):
        desk = self.desk
        desk._kept = self.lowest
        desk._trial = self.outer


def perform(desk, script, *, strict=False):
    """Do the items of the script in order and return their outcomes."""
    outcomes = []
    for item in script:
        if item[0] == "trial":
            outcomes.append(perform_within(Trial(desk), item[1], strict=strict))
        else:
            outcomes.append(_outcome(desk, item, strict))
    return tuple(outcomes)


def perform_within(trial, script, *, strict=False):
    """Do the items of the script in a block of the trial and return their outcomes."""
    with trial:
        return perform(trial.desk, script, strict=strict)


def _outcome(desk, item, strict):
    if strict:
        _do_item(desk, item)
        return "done"
    try:
        _do_item(desk, item)
    except UnknownVariable:
        return "unknown"
    except NoRowLeft:
        return "no row"
    except BadMark:
        return "bad mark"
    return "done"


def _do_item(desk, item):
    if item[0] == WISH:
        desk.wish(item[1], item[2])
    elif item[0] == BAR:
        desk.bar(item[1], item[2])
    else:
        desk.back(item[1])


def _with_deeds(signature, asked, deeds):
    """Return the deeds, the book and the layers that they leave."""
    wishes = Wishes(signature, asked, [(one, two) for word, one, two in deeds if word == WISH])
    saying = Saying(wishes)
    for word, one, two in deeds:
        if word == BAR:
            saying = saying & ~Saying(Wishes(signature, asked, [(one, two)]))
    return deeds, widest(wishes), layers_of(saying)
