"""The least machine that lets the subjects of a graph.

Sets of nodes are whole numbers here, in which the bit of each member is 1. What is read from a set of nodes on is all
that is read from one of them on.
"""

from subjecttags.graphs import ROOT, useful_nodes
from subjecttags.parting import least_machine


def members(group):
    """The members of a set, rising."""
    told = []
    while group:
        lowest = group & -group
        told.append(lowest.bit_length() - 1)
        group = group ^ lowest
    return told


def together(groups, group):
    """All that is in the sets with the numbers that are in a set."""
    told = 0
    for number in members(group):
        told = told | groups[number]
    return told


class Nodes:
    """The useful nodes of a graph, numbered anew from 0 on, with sets of them."""

    def __init__(self, graph):
        useful = useful_nodes(graph, ROOT)
        places = {node: place for place, node in enumerate(useful)}
        self.many_tags = graph.end
        self.many = len(useful)
        self.numbers = [graph.numbers[node] for node in useful]
        self.nexts = [0] * self.many
        self.lasts = [0] * self.many
        # Those of one number each: of a tag, of the end, and of the root.
        self.kinds = [0] * (graph.end + 2)
        for place, node in enumerate(useful):
            self.kinds[self.numbers[place]] = self.kinds[self.numbers[place]] | (1 << place)
            for beyond in graph.edges[node]:
                if beyond in places:
                    self.nexts[place] = self.nexts[place] | (1 << places[beyond])
                    self.lasts[places[beyond]] = self.lasts[places[beyond]] | (1 << place)


def covering(nodes):
    """For each node a set of nodes from each of which surely all is read that is read from it on.

    Wherever an edge leads from the node, an edge leads from each of its set to one of the set of the node beyond.
    """
    told = [(1 << nodes.many) - 1] * nodes.many
    queue = list(range(nodes.many))
    waiting = [True] * nodes.many
    at = 0
    while at < len(queue):
        beyond = queue[at]
        at += 1
        waiting[beyond] = False
        if nodes.lasts[beyond]:
            ahead = together(nodes.lasts, told[beyond] & nodes.kinds[nodes.numbers[beyond]])
            for node in members(nodes.lasts[beyond]):
                if told[node] & ahead != told[node]:
                    told[node] = told[node] & ahead
                    if not waiting[node]:
                        waiting[node] = True
                        queue.append(node)
    return told


def covered(nodes):
    """For each node the set of those with the same number of which it is in the covering set."""
    told = [0] * nodes.many
    for node, group in enumerate(covering(nodes)):
        for other in members(group & nodes.kinds[nodes.numbers[node]]):
            told[other] = told[other] | (1 << node)
    return told


class Reading:
    """The sets of nodes to which words are read.

    With each node its covered ones are in a set, too: this changes nothing of what is read from it on, but makes many
    sets equal. So the sets are few, where many of the words that are read can be followed by the same.
    """

    def __init__(self, nodes):
        self.nodes = nodes
        groups = covered(nodes)
        self.nexts = [together(groups, group) for group in nodes.nexts]
        self.places = {}
        # Each set is told by the union of those that follow, which is all that matters.
        self.marks = {}
        self.queue = []

    def place(self, group):
        """The number of the standing of a set."""
        if group not in self.places:
            mark = together(self.nexts, group)
            if mark not in self.marks:
                self.marks[mark] = len(self.queue)
                self.queue.append(mark)
            self.places[group] = self.marks[mark]
        return self.places[group]

    def standing(self, mark):
        """The standing of the sets with a union of those that follow."""
        nodes = self.nodes
        ways = []
        for number in range(nodes.many_tags):
            group = mark & nodes.kinds[number]
            ways.append(self.place(group) if group else None)
        return (mark & nodes.kinds[nodes.many_tags]) != 0, ways

    def all_standings(self):
        """The standings of a machine that need not be least."""
        self.place(1)
        told = []
        while len(told) < len(self.queue):
            told.append(self.standing(self.queue[len(told)]))
        return told


def machine_of(graph):
    """The least machine of a graph."""
    return least_machine(Reading(Nodes(graph)).all_standings())


def counted(machine, length):
    """How many words with `length` tags a machine lets."""
    many = [1 if ends else 0 for ends, _ in machine]
    for _ in range(length):
        many = [sum([many[way] for way in ways if way is not None]) for _, ways in machine]
    return many[0]
