"""The graph of all subjects that can arise.

A way through the graph, from a root to the end of a start, reads a subject from its front. Tags are told by their
numbers; the end, one more number, stands behind the last tag. All edges to a node have the same number, which is kept
with the node. Below the root there is a node for each beginning of the word of a standing, and a chain of nodes for
each start, one for each of its tags and one for its end. The word of a standing is led on to where a deed has stopped.

With each edge goes a number of deeds: those of a way together are the fewest deeds that make this way.
"""

ROOT = 0


class Graph:
    """Nodes, edges and the standings of eaters; subjecttags/filling.py adds the edges that deeds make."""

    def __init__(self, end):
        self.end = end
        self.numbers = []
        self.edges = []
        # For each standing its program, the node of its word, and its ways.
        self.stops = []
        # For each eater its first standing, and how many deeds it counts for.
        self.firsts = []
        self.ends = []
        # By the standing that made it, for each edge that a deed made.
        self.makers = {}
        # In front of which node a standing met the next one, and from which standing it came to this place.
        self.passed = {}
        self.before = {}

    def add_node(self, number):
        """Add a node without edges, and tell it."""
        self.numbers.append(number)
        self.edges.append({})
        return len(self.edges) - 1

    def add_root(self):
        """Add a node to which no edge leads, and tell it."""
        return self.add_node(self.end + 1)

    def add_edge_to_new(self, node, number):
        """Lead an edge from a node to a new one, and tell the new one."""
        beyond = self.add_node(number)
        self.edges[node][beyond] = 0
        return beyond

    def add_branch(self, root, word):
        """The node of a word below a root, which is added where it is missing."""
        node = root
        for number in word:
            found = [beyond for beyond in self.edges[node] if self.numbers[beyond] == number]
            node = found[0] if found else self.add_edge_to_new(node, number)
        return node

    def add_eater(self, root, program, form, deeds):
        """Add the standings of a least form, of which the words are put below a root."""
        first = len(self.stops)
        self.firsts.append((first, deeds))
        for word, ways in form:
            self.stops.append((program, self.add_branch(root, word),
                               [None if way is None else way + first for way in ways]))

    def add_start(self, word):
        """Add a subject from which others can arise."""
        node = ROOT
        for number in word + [self.end]:
            node = self.add_edge_to_new(node, number)
        self.ends.append(node)


def numbered_word(tags, word):
    """A word with the numbers of its tags."""
    return [tags.index(tag) for tag in word]


def numbered_form(tags, eater):
    """The least form of an eater, with the numbers of the tags."""
    return [(numbered_word(tags, word), ways) for word, ways in eater.standings()]


def empty_graph(programs, starts):
    """The graph of the programs and the starts, without the edges that deeds make."""
    tags = programs[0].tags()
    graph = Graph(len(tags))
    graph.add_root()
    for program, eater in enumerate(programs):
        graph.add_eater(ROOT, program, numbered_form(tags, eater), 1)
    # The starts come behind the words, so that no word is put below the nodes of a start.
    for start in starts:
        graph.add_start(numbered_word(tags, start))
    return graph


def add_key(graph, key):
    """Add a key to a graph, below a root of its own, which is told."""
    root = graph.add_root()
    graph.add_eater(root, None, numbered_form(key.tags(), key), 0)
    return root


def nodes_before(graph):
    """For each node those from which edges lead to it."""
    told = [[] for _ in graph.edges]
    for node, edges in enumerate(graph.edges):
        for beyond in edges:
            told[beyond].append(node)
    return told


def met(nexts, nodes):
    """All nodes that are met from some nodes on, as the keys of a dict; `nexts` has those that follow on each one."""
    found = {node: True for node in nodes}
    queue = list(nodes)
    at = 0
    while at < len(queue):
        node = queue[at]
        at += 1
        for beyond in nexts[node]:
            if beyond not in found:
                found[beyond] = True
                queue.append(beyond)
    return found


def useful_nodes(graph, root):
    """The nodes through which ways from a root to an end lead, rising."""
    behind_root = met([list(edges) for edges in graph.edges], [root])
    ahead_of_ends = met(nodes_before(graph), graph.ends)
    return [node for node in range(len(graph.edges)) if node in behind_root and node in ahead_of_ends]
