"""The errors of the package, each with the one attribute that tells what was wrong."""


class LinkError(ValueError):
    """The base of all errors of this package."""


class InvalidGraph(LinkError):
    def __init__(self, given):
        super().__init__("no graph")
        self.given = given


class InvalidEdge(LinkError):
    def __init__(self, given):
        super().__init__("no edge of the graph")
        self.given = given


class InvalidVertex(LinkError):
    def __init__(self, given):
        super().__init__("no vertex of the graph that can be taken here")
        self.given = given


class InvalidTriangle(LinkError):
    def __init__(self, given):
        super().__init__("no triangle of the graph")
        self.given = given


class InvalidNumber(LinkError):
    def __init__(self, given):
        super().__init__("no whole number within the bounds")
        self.given = given


class InvalidRotation(LinkError):
    def __init__(self, given):
        super().__init__("no rotation of the graph")
        self.given = given


class TooMany(LinkError):
    def __init__(self, given):
        super().__init__("too many vertices or edges for a graph")
        self.given = given


class InvalidText(LinkError):
    def __init__(self, index):
        super().__init__("no text of a graph")
        self.index = index


class InvalidMoves(LinkError):
    def __init__(self, index):
        super().__init__("no ascending tuple of moves of the graph")
        self.index = index


class InvalidPasses(LinkError):
    def __init__(self, index):
        super().__init__("no ascending tuple of passes of the graph")
        self.index = index


class InvalidLines(LinkError):
    def __init__(self, index):
        super().__init__("no tuple of lines, or no line")
        self.index = index
