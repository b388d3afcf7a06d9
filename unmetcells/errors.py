"""All errors of the package; each one stands directly under CallError."""


class CallError(ValueError):
    """Something that was passed is refused."""


class BadBook(CallError):
    """A book is refused: `what` is the word of its fault."""

    def __init__(self, what):
        self.what = what


class BadHistory(CallError):
    """A history is refused at this index."""

    def __init__(self, index):
        self.index = index


class BadText(CallError):
    """A text is refused: `place` is the number of its first wrong line or word."""

    def __init__(self, place):
        self.place = place


class TooMany(CallError):
    """There is more of something than the bound `most`."""

    def __init__(self, most):
        self.most = most


class BadStanding(CallError):
    """A standing is refused."""


class BadCall(CallError):
    """A call is none of the book or program."""


class BadAnswer(CallError):
    """An answer is not 0, 1 or 2."""


class BadTrail(CallError):
    """A trail is refused at this index."""

    def __init__(self, index):
        self.index = index


class BadLength(CallError):
    """A length is out of range."""


class UnlikeCalls(CallError):
    """Two things have not equally many calls."""


class NotLooser(CallError):
    """A book is not looser than another one, as this trail shows."""

    def __init__(self, trail):
        self.trail = trail


class BadCover(CallError):
    """A cover is refused at this index."""

    def __init__(self, index):
        self.index = index


class BadScripts(CallError):
    """Scripts are refused: `hand` is the hand at fault, or None, and `what` the word of the fault."""

    def __init__(self, hand, what):
        self.hand = hand
        self.what = what


class BadPast(CallError):
    """A past is refused."""


class NoTurn(CallError):
    """There is no such turn of this hand."""

    def __init__(self, hand):
        self.hand = hand


class BadDepth(CallError):
    """A depth is out of range."""


class BadJoint(CallError):
    """A joint is refused."""


class BadMost(CallError):
    """A bound is out of range."""

    def __init__(self, most):
        self.most = most


class BadCalls(CallError):
    """A row of calls is refused at this index."""

    def __init__(self, index):
        self.index = index


class BadLot(CallError):
    """A lot of joints is refused at this index."""

    def __init__(self, index):
        self.index = index


class NotSafe(CallError):
    """A joint is barred where a safe one is needed."""


class IsSafe(CallError):
    """A joint is safe where a barred one is needed."""


class BadHand(CallError):
    """A hand is out of range."""


class BadAsks(CallError):
    """A row of asks is refused at this index."""

    def __init__(self, index):
        self.index = index


class NotHad(CallError):
    """What is to be had is not had: `barred` tells where."""

    def __init__(self, barred):
        self.barred = barred


class BadForeign(CallError):
    """A foreign program is refused: `what` is the word of its fault."""

    def __init__(self, hand, call, what):
        self.hand = hand
        self.call = call
        self.what = what


class BadHands(CallError):
    """A number of hands is out of range."""

    def __init__(self, hands):
        self.hands = hands


class BadLots(CallError):
    """Lots of calls are refused at this hand."""

    def __init__(self, hand):
        self.hand = hand


class NotPlain(CallError):
    """A book is not plain."""


class BadState(CallError):
    """A state is none of the book."""

    def __init__(self, state):
        self.state = state


class HasFull(CallError):
    """There is a full wish, with these scripts."""

    def __init__(self, scripts):
        self.scripts = scripts


class BadSeams(CallError):
    """Seams are refused."""


class NoStretch(CallError):
    """There is no stretch with this number."""

    def __init__(self, stretch):
        self.stretch = stretch


class NoCounts(CallError):
    """There are no such counts of the stretch."""


class NotRight(CallError):
    """A history is not right."""


class BadPool(CallError):
    """A pool of ways is refused at this index: `what` is the word of the fault."""

    def __init__(self, index, what):
        self.index = index
        self.what = what


class BadEdit(CallError):
    """An edit is refused at this index: `what` is the word of the fault."""

    def __init__(self, index, what):
        self.index = index
        self.what = what


class BadGoal(CallError):
    """A goal is refused at this index."""

    def __init__(self, index):
        self.index = index


class NothingDone(CallError):
    """There is nothing to take back."""
