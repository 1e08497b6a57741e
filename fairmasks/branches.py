"""All runs of a program for one content, deed by deed, as they branch at throws."""

from fairmasks.steps import Steps


class Branches:
    """The PLACES between deeds, numbered so that each stands behind the one that it comes from.

    dues has for each place the deed that is due there, ups the place from
    which it comes (None for the first), ways the move by which it comes from
    there, and downs the list of the places that come from it.
    """

    def __init__(self, program, content):
        self.dues = []
        self.ups = [None]
        self.ways = [None]
        self.downs = []
        steps = Steps(program)
        marks = [steps.start]
        while len(self.dues) < len(marks):
            place = len(self.dues)
            mark = marks[place]
            deed = steps.deed_at(mark)
            come = []
            if deed[0] == "throw":
                come = [(("throw", value), steps.behind_throw(mark, value)) for value in range(deed[1])]
            elif deed[0] == "open":
                come = [(("go",), steps.behind_opening(mark, deed[1], content[deed[1]]))]
            self.dues.append(deed)
            self.downs.append([len(marks) + at for at in range(len(come))])
            for way, behind in come:
                self.ups.append(place)
                self.ways.append(way)
                marks.append(behind)


def moves_to(branches, place):
    """The list of the moves from the first place to this one."""
    found = []
    while branches.ups[place] is not None:
        found.append(branches.ways[place])
        place = branches.ups[place]
    return found[::-1]


def first_showing(branches, pattern):
    """The first place at which just this pattern is to be shown, or None."""
    for place, deed in enumerate(branches.dues):
        if deed == ("show", pattern):
            return place
    return None


def bases_of(branches, policy):
    """For each place the list of where a fall there leads to: to where the last line was made sure."""
    throws, ahead = policy
    found = [0]
    for place in range(1, len(branches.dues)):
        before = branches.ups[place]
        if branches.ways[place] == ("go",):
            found.append(before if ahead else found[before])
        else:
            found.append(place if throws else found[before])
    return found
