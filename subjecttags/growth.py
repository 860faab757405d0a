"""How long subjects can become, and what makes them grow for ever."""

from subjecttags.filling import filled
from subjecttags.graphs import ROOT, empty_graph, nodes_before, numbered_word, useful_nodes
from subjecttags.rows import fewest_to_ends, layers, row_of_way, way_through, way_to_end


def longest(graph):
    """The greatest number of tags on a way from the root to an end, or None if there is none."""
    useful = {node: True for node in useful_nodes(graph, ROOT)}
    waiting = {node: 0 for node in useful}
    for node in useful:
        for beyond in graph.edges[node]:
            if beyond in useful:
                waiting[beyond] += 1
    far = {ROOT: 0}
    queue = [ROOT]
    at = 0
    while at < len(queue):
        node = queue[at]
        at += 1
        for beyond in graph.edges[node]:
            if beyond in useful:
                far[beyond] = max(far.get(beyond, 0), far[node] + 1)
                waiting[beyond] -= 1
                if waiting[beyond] == 0:
                    queue.append(beyond)
    # The edges of a ring wait for each other.
    if len(queue) < len(useful):
        return None
    return max([far[end] - 1 for end in graph.ends])


def beginnings(programs):
    """All words with at least one tag with which a word of a standing begins."""
    found = {}
    for eater in programs:
        for word, _ in eater.standings():
            for many in range(1, len(word) + 1):
                found[tuple(word[:many])] = True
    return [list(word) for word in found]


def least_of(found):
    """The tuple with the least number in front, the first one of these, or None if there is none."""
    least = None
    for told in found:
        if least is None or told[0] < least[0]:
            least = told
    return least


class Growth:
    """The search for a row and a ring of deeds by which subjects grow for ever."""

    def __init__(self, programs, graph):
        self.words = beginnings(programs)
        self.numbered = [numbered_word(programs[0].tags(), word) for word in self.words]
        self.graph = graph
        self.to_ends = fewest_to_ends(graph, nodes_before(graph), graph.ends)
        # All that can be made of each of the words alone, whatever stands behind it.
        self.alone = filled(empty_graph(programs, self.words), False)
        self.alone_before = nodes_before(self.alone)

    def way_to(self, word):
        """The fewest deeds that make a subject that begins with a word, and a way for it; None if none does."""
        told = layers(self.graph, ROOT, word)
        found = [(deeds + self.to_ends[node][0], node) for node, (deeds, _) in told[-1].items() if node in self.to_ends]
        least = least_of(found)
        if least is None:
            return None
        deeds, node = least
        return deeds, way_through(told, node) + way_to_end(self.to_ends, node)

    def way_round(self, number):
        """The fewest deeds that make more of a word alone, itself in front, and a way for it; None if none does."""
        graph = self.alone
        to_end = fewest_to_ends(graph, self.alone_before, [graph.ends[number]])
        told = layers(graph, ROOT, self.numbered[number])
        found = []
        for node, (deeds, _) in told[-1].items():
            for beyond, more in graph.edges[node].items():
                if graph.numbers[beyond] != graph.end and beyond in to_end:
                    found.append((deeds + more + to_end[beyond][0], node, beyond))
        least = least_of(found)
        if least is None:
            return None
        deeds, node, beyond = least
        return deeds, way_through(told, node) + [beyond] + way_to_end(to_end, beyond)

    def least_tuple(self):
        """The start, the row, the ring and the word with the fewest deeds in row and ring together."""
        found = []
        for number, word in enumerate(self.numbered):
            to = self.way_to(word)
            around = None if to is None else self.way_round(number)
            if around is not None:
                found.append((to[0] + around[0], to[1], around[1], self.words[number]))
        _, way, ring_way, word = least_of(found)
        start, row = row_of_way(self.graph, ROOT, way)
        return start, row, row_of_way(self.alone, ROOT, ring_way)[1], word
