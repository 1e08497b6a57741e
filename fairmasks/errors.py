"""The errors that the package raises.

The wording of a message never shows a field: a field may be any object, and
some objects (very long integers) cannot be written out.
"""


class MaskError(ValueError):
    """What all errors of this package have in common."""


class BadSizes(MaskError):
    """Sizes are asked for and something else is passed."""

    def __init__(self):
        MaskError.__init__(self, "no tuple of 1 to 5 integers from 2 to 4 with a product of at most 256")


class NoPattern(MaskError):
    """A pattern is asked for and something else is passed."""

    def __init__(self):
        MaskError.__init__(self, "no ascending tuple of columns that is allowed here")


class NoContent(MaskError):
    """A content is asked for and something else is passed."""

    def __init__(self):
        MaskError.__init__(self, "no tuple with a number below each size")


class NoBox(MaskError):
    """A box is asked for and something else is passed."""

    def __init__(self):
        MaskError.__init__(self, "no pair of a pattern and a tuple of worths for its columns")


class NoNumber(MaskError):
    """A number is asked for and something else is passed."""

    def __init__(self):
        MaskError.__init__(self, "no number that is allowed here")


class BadHabit(MaskError):
    """A habit cannot be made: part is what is wrong with it."""

    def __init__(self, part):
        MaskError.__init__(self, "the sizes or the rows of the habit are wrong")
        self.part = part


class NotFair(MaskError):
    """A fair habit is asked for and an unfair one is passed."""

    def __init__(self):
        MaskError.__init__(self, "the habit is not fair")


class NoShares(MaskError):
    """Shares of boxes are asked for and something else is passed."""

    def __init__(self):
        MaskError.__init__(self, "no dict from boxes of part patterns to shares")


class TooMuch(MaskError):
    """The shares of the boxes of a content come to more than 1."""

    def __init__(self, content):
        MaskError.__init__(self, "the shares of a content come to more than 1")
        self.content = content


class NoChances(MaskError):
    """Chances are asked for and something else is passed."""

    def __init__(self):
        MaskError.__init__(self, "no tuple with a fraction above 0 for each content and the sum 1")


class NeverShown(MaskError):
    """A box that is shown at times is asked for and another one is passed."""

    def __init__(self):
        MaskError.__init__(self, "the box is never shown")


class OtherSizes(MaskError):
    """Two things of the same sizes are asked for and their sizes are unlike."""

    def __init__(self):
        MaskError.__init__(self, "the sizes are unlike")


class NoShare(MaskError):
    """A share is asked for and something else is passed."""

    def __init__(self):
        MaskError.__init__(self, "no fraction from 0 to 1")


class NoRules(MaskError):
    """Rules of hiding again are asked for and something else is passed."""

    def __init__(self):
        MaskError.__init__(self, "no rules for just the patterns of the habit")


class NoColumns(MaskError):
    """All columns in some order are asked for and something else is passed."""

    def __init__(self):
        MaskError.__init__(self, "no tuple of all columns")


class BadProgram(MaskError):
    """A program cannot be made: part is what is wrong with it."""

    def __init__(self, part):
        MaskError.__init__(self, "the sizes or the block of the program are wrong")
        self.part = part


class NoThrows(MaskError):
    """Throws are asked for and something else is passed."""

    def __init__(self):
        MaskError.__init__(self, "no row of numbers that falls as the throws ask for")


class TooMany(MaskError):
    """There is more to go through than is let: most is what is let."""

    def __init__(self, most):
        MaskError.__init__(self, "there are more of them than is let")
        self.most = most


class BadAsker(MaskError):
    """An asker cannot be made: part is what is wrong with it."""

    def __init__(self, part):
        MaskError.__init__(self, "the sizes or the moves of the asker are wrong")
        self.part = part


class NotBlind(MaskError):
    """A blind program is asked for and another one is passed."""

    def __init__(self):
        MaskError.__init__(self, "the program is not blind")


class NoList(MaskError):
    """A list of patterns is asked for and something else is passed."""

    def __init__(self):
        MaskError.__init__(self, "no ascending tuple of 1 to 12 patterns that holds the one of all columns")


class NoBet(MaskError):
    """A bet is asked for and something else is passed."""

    def __init__(self):
        MaskError.__init__(self, "no bet of these sizes")


class NoRing(MaskError):
    """A ring is asked for and something else is passed."""

    def __init__(self):
        MaskError.__init__(self, "no ring of patterns and columns")


class NoShowing(MaskError):
    """A showing is asked for and something else is passed."""

    def __init__(self):
        MaskError.__init__(self, "no dict from contents to patterns")


class NoTree(MaskError):
    """A tree is asked for and something else is passed."""

    def __init__(self):
        MaskError.__init__(self, "no tree of these sizes")


class NoPair(MaskError):
    """A pair of unlike patterns is asked for and something else is passed."""

    def __init__(self):
        MaskError.__init__(self, "no pair of patterns of which neither lies within the other")


class NoCutting(MaskError):
    """A cutting is asked for and something else is passed."""

    def __init__(self):
        MaskError.__init__(self, "no ascending tuple of boxes with each content in just one")


class NoQuestion(MaskError):
    """A question is asked for and something else is passed."""

    def __init__(self):
        MaskError.__init__(self, "no tuple with a fraction for each content")


class NoWeights(MaskError):
    """Weights are asked for and something else is passed."""

    def __init__(self):
        MaskError.__init__(self, "no dict from boxes that are shown to fractions")


class NoRows(MaskError):
    """A row of some things is asked for and something else is passed."""

    def __init__(self):
        MaskError.__init__(self, "no row of what is asked for")


class NoName(MaskError):
    """A name is asked for and something else is passed."""

    def __init__(self):
        MaskError.__init__(self, "no name that is allowed here")


class NotTold(MaskError):
    """No weights tell the question."""

    def __init__(self):
        MaskError.__init__(self, "no weights tell the question")


class NothingDone(MaskError):
    """There is no deed that could be taken back."""

    def __init__(self):
        MaskError.__init__(self, "nothing is left to be taken back")


class NoPolicy(MaskError):
    """A policy is asked for and something else is passed."""

    def __init__(self):
        MaskError.__init__(self, "no pair of flags")


class NotDue(MaskError):
    """A deed is done that is not the one to do now."""

    def __init__(self):
        MaskError.__init__(self, "this deed is not due")


class BadLog(MaskError):
    """Lines are no log of the keeper: index is the first that is wrong."""

    def __init__(self, index):
        MaskError.__init__(self, "no log of a keeper of this program")
        self.index = index


class BadText(MaskError):
    """A text cannot be read: line is the first that is wrong."""

    def __init__(self, line):
        MaskError.__init__(self, "the text is not written as it has to be")
        self.line = line
