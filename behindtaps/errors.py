"""The errors of the package: all of them stand directly under TapError."""


class TapError(ValueError):
    """What every error of this package is."""


class BadTaps(TapError):
    """Not 2 to 6 unlike names, ascending."""


class BadLot(TapError):
    """No lot of the taps."""


class BadSort(TapError):
    """None of pipes, leads and hubs."""


class BadNet(TapError):
    """No net, or not one of the kind that is asked."""


class BadClaim(TapError):
    """No claim, or not one with the taps that are asked."""


class BadNumber(TapError):
    """No number, or not one within the bounds that are asked."""


class BadPaper(TapError):
    """No paper for the claim and the sort."""


class BadWidths(TapError):
    """No dict of widths of the kind that is asked."""


class BadFlowClaim(TapError):
    """No flow claim."""


class BadStanding(TapError):
    """No standing of the flow claim."""


class BadPlaces(TapError):
    """No places, or not those that are asked."""


class BadFlow(TapError):
    """No flow from the source to the target."""


class BadWishes(TapError):
    """No wishes for the net."""


class BadSending(TapError):
    """No sending in the net."""


class BadLengths(TapError):
    """No lengths of the net."""


class BadWay(TapError):
    """Neither even nor free."""


class BadRule(TapError):
    """No rule of the taps for the way."""


class BadSteps(TapError):
    """No steps of the taps for the way."""


class BadGiven(TapError):
    """No list of given claims with the taps that are asked."""


class BadRealm(TapError):
    """No realm."""


class NoClaim(TapError):
    """The claim is not in the book."""


class BadBook(TapError):
    """No book of these taps."""


class BadRows(TapError):
    """No list of rows."""


class BadAim(TapError):
    """No aim for the rows."""


class BadPoint(TapError):
    """No point that meets the rows."""


class BadFact(TapError):
    """No fact about the taps."""


class BadFacts(TapError):
    """No list of facts about the taps."""


class BadWalls(TapError):
    """No dict of walls of the taps."""


class BadWeights(TapError):
    """No weights for the facts."""


class BadTerms(TapError):
    """No terms of the kind that is asked."""


class BadClaims(TapError):
    """No list of claims of the kind that is asked."""


class BadTable(TapError):
    """No table for the taps and the sort."""


class BadWorths(TapError):
    """No dict of worths for all even sets."""


class NoEntry(TapError):
    """There is no entry to take back or to add again."""


class BadWork(TapError):
    """No work, or not one of the kind that is asked."""


class BadContents(TapError):
    """No contents, or no nets, of the work."""


class BadCounts(TapError):
    """No counts of a sum of the work."""


class BadBox(TapError):
    """No box of the work."""


class BadTold(TapError):
    """No told measurements of boxes."""


class BadDayClaim(TapError):
    """No day claim."""


class BadTrend(TapError):
    """No trend."""


class BadStory(TapError):
    """No story of the kind that is asked."""


class BadForm(TapError):
    """No form, or not one with the keys that are asked."""


class BadDeeds(TapError):
    """No deeds of the kind that is asked."""


class BadNeeded(TapError):
    """No dict of the needed walls."""


class TooMany(TapError):
    """There are more than most."""

    def __init__(self, most):
        super().__init__(f"more than {most}")
        self.most = most


class BadText(TapError):
    """The text is wrong in this line."""

    def __init__(self, line):
        super().__init__(f"wrong in line {line}")
        self.line = line


class CrossedLot(TapError):
    """The lot and its opposite stand on both sides of the claim."""

    def __init__(self, lot):
        super().__init__(f"crossed: {lot}")
        self.lot = lot


class Parted(TapError):
    """The lot has just one of the two taps."""

    def __init__(self, lot):
        super().__init__(f"parted: {lot}")
        self.lot = lot


class Clash(TapError):
    """The facts clash; the weights are a reason."""

    def __init__(self, weights):
        super().__init__("the facts clash")
        self.weights = weights
