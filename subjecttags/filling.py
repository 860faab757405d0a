"""The edges that deeds make, with the fewest deeds for each.

An eater goes along the edges as it takes tags. Where it has come to a node in a standing, it meets the nodes that
follow. If the standing has a way for the number of such a node, it comes there in the next standing; if not, it stops,
and its word stands in front of this node: so an edge leads from the node of the word to it, along which each eater
may go in its turn. What needs fewer deeds is taken first, so that all is taken once, by the fewest deeds.
"""

from heapq import heappop, heappush

from subjecttags.graphs import ROOT, empty_graph


class Filling:
    """The work on one graph."""

    def __init__(self, graph, looks_at_end):
        self.graph = graph
        self.looks_at_end = looks_at_end
        self.queue = []
        # By a standing and the node that it meets, the fewest deeds up to now.
        self.least_deeds = {}
        # By a standing and the node to which it has come, the fewest deeds; for each node the standings there.
        self.deeds = {}
        self.there = [[] for _ in graph.edges]

    def fill(self):
        """Add all edges that deeds make."""
        for stop, deeds in self.graph.firsts:
            self.come(stop, ROOT, deeds, None)
        while self.queue:
            deeds, stop, node, passed = heappop(self.queue)
            if (stop, node) not in self.graph.passed:
                self.graph.passed[(stop, node)] = passed
                self.go_on(stop, node, deeds)

    def come(self, stop, node, deeds, before):
        """A standing comes to a node, from the standing before, or as the first one."""
        if (stop, node) in self.deeds:
            return
        self.deeds[(stop, node)] = deeds
        self.graph.before[(stop, node)] = before
        self.there[node].append(stop)
        for beyond, more in self.graph.edges[node].items():
            self.meet(stop, beyond, deeds + more, node)

    def meet(self, stop, node, deeds, passed):
        """A standing meets a node behind the one to which it has come."""
        if (stop, node) not in self.least_deeds or deeds < self.least_deeds[(stop, node)]:
            self.least_deeds[(stop, node)] = deeds
            heappush(self.queue, (deeds, stop, node, passed))

    def go_on(self, stop, node, deeds):
        """A standing takes the tag of a node that it meets, or stops in front of it."""
        ways = self.graph.stops[stop][2]
        number = self.graph.numbers[node]
        if number != self.graph.end:
            if ways[number] is not None:
                self.come(ways[number], node, deeds, stop)
            else:
                self.stop_ahead(stop, node, deeds)
        elif self.looks_at_end or all([way is None for way in ways]):
            self.stop_ahead(stop, node, deeds)

    def stop_ahead(self, stop, node, deeds):
        """A standing puts its word in front of a node."""
        word = self.graph.stops[stop][1]
        if node in self.graph.edges[word]:
            return
        self.graph.edges[word][node] = deeds
        self.graph.makers[(word, node)] = stop
        for other in self.there[word]:
            self.meet(other, node, self.deeds[(other, word)] + deeds, word)


def filled(graph, looks_at_end):
    """The graph, with all edges that deeds make.

    Without `looks_at_end` the ends of the starts stand for whatever tags may follow, of which a deed can't know
    anything: so a standing with ways does not stop there.
    """
    Filling(graph, looks_at_end).fill()
    return graph


def graph_of(programs, starts):
    """The graph of all subjects that can arise."""
    return filled(empty_graph(programs, starts), True)
