"""Which starts a key joins, and by which rows of deeds.

The keys of the subjects that can arise are read in the graph from a root of the key's own. Two ways are gone together
here, to the ends of two starts, along nodes with the same numbers.
"""

from heapq import heappop, heappush

from subjecttags.filling import filled
from subjecttags.graphs import add_key, empty_graph, met, nodes_before, useful_nodes
from subjecttags.machines import together
from subjecttags.rows import row_of_way


class Joining:
    """The graph of programs and starts, with a key."""

    def __init__(self, programs, key, starts):
        graph = empty_graph(programs, starts)
        self.root = add_key(graph, key)
        self.graph = filled(graph, True)
        self.before = nodes_before(graph)
        useful = {node: True for node in useful_nodes(graph, self.root)}
        # Only what leads from the root to an end.
        self.nexts = [[beyond for beyond in edges if node in useful and beyond in useful]
                      for node, edges in enumerate(graph.edges)]

    def beside_each(self):
        """For each node the set of those to which a word is read that is read to it, too, as whole numbers."""
        numbers = self.graph.numbers
        kinds = {}
        for node, number in enumerate(numbers):
            kinds[number] = kinds.get(number, 0) | (1 << node)
        groups = [sum([1 << beyond for beyond in nexts]) for nexts in self.nexts]
        told = [0] * len(self.nexts)
        fresh = [0] * len(self.nexts)
        fresh[self.root] = 1 << self.root
        queue = [self.root]
        while queue:
            node = queue.pop()
            follow = together(groups, fresh[node])
            told[node] = told[node] | fresh[node]
            fresh[node] = 0
            for beyond in self.nexts[node]:
                more = follow & kinds[numbers[beyond]] & ~told[beyond]
                if more and not fresh[beyond]:
                    queue.append(beyond)
                fresh[beyond] = fresh[beyond] | more
        return told

    def least_pair(self):
        """The least two numbers of starts that the key joins, or None."""
        ends = self.graph.ends
        told = self.beside_each()
        for one, end in enumerate(ends):
            for other in range(one + 1, len(ends)):
                if told[end] & (1 << ends[other]):
                    return one, other
        return None

    def two_ways(self, one, other):
        """Two ways from the root to two ends, with the same numbers, and the fewest deeds together."""
        first_step = (self.root, self.root, False)
        ahead = met(self.before, [one]), met(self.before, [other])
        came = {}
        queue = [(0, first_step, None)]
        while (one, other, False) not in came:
            deeds, step, last = heappop(queue)
            if step not in came:
                came[step] = last
                for more, onward in self.following(step, ahead):
                    if onward not in came:
                        heappush(queue, (deeds + more, onward, step))
        return both_ways(came, (one, other, False))

    def following(self, step, ahead):
        """What can follow a step, with the deeds that it takes: first the one way goes on, and then the other one."""
        left, right, other_turn = step
        graph = self.graph
        if not other_turn:
            return [(graph.edges[left][node], (node, right, True)) for node in self.nexts[left] if node in ahead[0]]
        number = graph.numbers[left]
        return [(graph.edges[right][node], (left, node, False)) for node in self.nexts[right]
                if graph.numbers[node] == number and node in ahead[1]]


def both_ways(came, step):
    """The two ways that lead to a step, without the root."""
    ways = [], []
    while came[step] is not None:
        left, right, other_turn = step
        if not other_turn:
            ways[0].append(left)
            ways[1].append(right)
        step = came[step]
    return ways[0][::-1], ways[1][::-1]


def joined(programs, key, starts):
    """The least two starts that a key joins, with rows of deeds behind which they have the same key, or None."""
    joining = Joining(programs, key, starts)
    pair = joining.least_pair()
    if pair is None:
        return None
    ends = joining.graph.ends
    way, other_way = joining.two_ways(ends[pair[0]], ends[pair[1]])
    one, row = row_of_way(joining.graph, joining.root, way)
    other, line = row_of_way(joining.graph, joining.root, other_way)
    return one, row, other, line
