"""All errors that the package raises, each directly under TripError."""


class TripError(ValueError):
    """Something that was asked for can not be done."""

    def kind(self):
        """The name of the class of the error."""
        return self.__class__.__name__


class BadTree(TripError):
    """What should be a tree is none."""

    def __init__(self, error):
        TripError.__init__(self, "this is no tree")
        self.error = error


class BadScale(TripError):
    """What should be a scale is none."""

    def __init__(self, error):
        TripError.__init__(self, "this is no scale")
        self.error = error


class BadText(TripError):
    """A text is the text of nothing that was asked for."""


class NoPart(TripError):
    """No way of the tree leads to what is wanted."""

    def __init__(self, given):
        TripError.__init__(self, "there is no such part")
        self.given = given


class NoButton(TripError):
    """This is no button that is wanted here."""

    def __init__(self, given):
        TripError.__init__(self, "there is no such button")
        self.given = given


class NoName(TripError):
    """This name is not kept."""

    def __init__(self, given):
        TripError.__init__(self, "there is no such name")
        self.given = given


class Taken(TripError):
    """This button stands in the tree already."""

    def __init__(self, given):
        TripError.__init__(self, "this button stands in the tree already")
        self.given = given


class NoNest(TripError):
    """A tree is no nest, as its paper shows."""

    def __init__(self, paper):
        TripError.__init__(self, "this tree is no nest")
        self.paper = paper


class NoTree(TripError):
    """No tree is of these lots, as the paper shows."""

    def __init__(self, paper):
        TripError.__init__(self, "no tree is of these lots")
        self.paper = paper


class NoFilling(TripError):
    """No filling is left, as the paper shows."""

    def __init__(self, paper):
        TripError.__init__(self, "no filling is left")
        self.paper = paper


class Unfit(TripError):
    """What was handed in does not fit the rest."""


class TooMany(TripError):
    """There are more than a limit lets by."""

    def __init__(self, limit):
        TripError.__init__(self, "there are too many")
        self.limit = limit


class BadBatch(TripError):
    """What should be a batch of edits is none."""


class Rejected(TripError):
    """An edit of a batch raised an error."""

    def __init__(self, index):
        TripError.__init__(self, "an edit of the batch was rejected")
        self.index = index


class TooManyEdits(TripError):
    """No further edit can stand."""


class NothingToUndo(TripError):
    """No edit stands that could be taken back."""


class NothingToRedo(TripError):
    """No edit was taken back that could be done again."""


class NoVersion(TripError):
    """There is no such version."""

    def __init__(self, given):
        TripError.__init__(self, "there is no such version")
        self.given = given


class BadLog(TripError):
    """A line of a log, or an edit, is not right."""

    def __init__(self, place):
        TripError.__init__(self, "this log is not right")
        self.place = place
