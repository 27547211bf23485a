"""The errors of the program, each a class of its own below FlowError."""


class FlowError(ValueError):
    """The base class of all errors."""


class BadFlow(FlowError):
    """A value is no flow; index is that of the first item of its pipes that is no pipe, or None."""

    def __init__(self, index):
        FlowError.__init__(self, f"no flow: pipe {index}")
        self.index = index


class BadBox(FlowError):
    """A value is no box of the flow."""


class BadPipe(FlowError):
    """A value is no pipe of the flow."""


class BadMarks(FlowError):
    """A value is no tokens of the flow's pipes; index is that of the first wrong item, or None."""

    def __init__(self, index):
        FlowError.__init__(self, f"no tokens of all pipes: item {index}")
        self.index = index


class BadFiring(FlowError):
    """A box can't be fired."""


class BadWord(FlowError):
    """A value is no word, index is None; or its firing at the index can't be done."""

    def __init__(self, index):
        FlowError.__init__(self, f"no word of the flow: firing {index}")
        self.index = index


class BadCounts(FlowError):
    """A value is no counts of the flow's boxes; index is that of the first wrong item, or None."""

    def __init__(self, index):
        FlowError.__init__(self, f"no counts of all boxes: item {index}")
        self.index = index


class NotBalanced(FlowError):
    """A flow is not balanced."""


class NotLive(FlowError):
    """A flow does not live."""


class BadRoom(FlowError):
    """A value is no room of the flow's pipes; index is that of the first wrong item, or None."""

    def __init__(self, index):
        FlowError.__init__(self, f"no room of all pipes: item {index}")
        self.index = index


class BadLoop(FlowError):
    """A value is no looped code, or none that will do."""


class BadCode(FlowError):
    """A value is no code; index is that of the first step that cannot stand, or None."""

    def __init__(self, index):
        FlowError.__init__(self, f"no code: step {index}")
        self.index = index


class BadSet(FlowError):
    """A value is no set of the flow's boxes, or none that will do."""


class BadOrder(FlowError):
    """A value is no order of the flow's boxes, or none that will do."""


class BadTimes(FlowError):
    """A value is no durations of the flow's boxes; index is that of the first wrong item, or None."""

    def __init__(self, index):
        FlowError.__init__(self, f"no durations of all boxes: item {index}")
        self.index = index


class BadCount(FlowError):
    """A value is no number of rounds."""


class NotText(FlowError):
    """A value is no string."""


class InvalidText(FlowError):
    """A text is wrong; place is the index of the first character that cannot stand."""

    def __init__(self, place):
        FlowError.__init__(self, f"invalid text at {place}")
        self.place = place


class TooMany(FlowError):
    """Something is more than the most that is allowed."""

    def __init__(self, most):
        FlowError.__init__(self, f"more than {most}")
        self.most = most
