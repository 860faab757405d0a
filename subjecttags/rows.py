"""Rows of deeds: what they make of subjects, and those that make the ways of a graph."""

from heapq import heappop, heappush

from subjecttags.graphs import ROOT


def do_deed(tags, form, turned):
    """Do a deed on a subject that is turned, its front last, and tell whether it needs not know what is behind it."""
    at = 0
    while turned:
        way = form[at][1][tags.index(turned[-1])]
        if way is None:
            turned.extend(form[at][0][::-1])
            return True
        turned.pop()
        at = way
    turned.extend(form[at][0][::-1])
    return all([way is None for way in form[at][1]])


def behind_row(programs, subject, row):
    """What a row of deeds makes of a subject."""
    tags = programs[0].tags()
    forms = [eater.standings() for eater in programs]
    turned = subject[::-1]
    for program in row:
        do_deed(tags, forms[program], turned)
    return turned[::-1]


def behind_row_alone(programs, word, row):
    """What a row of deeds makes of a word alone, whatever stands behind it, or None if that can't be told."""
    tags = programs[0].tags()
    forms = [eater.standings() for eater in programs]
    turned = word[::-1]
    for program in row:
        if not do_deed(tags, forms[program], turned):
            return None
    return turned[::-1]


def layers(graph, root, word):
    """For each beginning of a word the nodes to which it is read from a root on.

    Each layer is a dict by these nodes, with the fewest deeds up to there and the node before.
    """
    told = [{root: (0, None)}]
    for number in word:
        found = {}
        for node, (deeds, _) in told[-1].items():
            for beyond, more in graph.edges[node].items():
                if graph.numbers[beyond] == number and (beyond not in found or deeds + more < found[beyond][0]):
                    found[beyond] = (deeds + more, node)
        told.append(found)
    return told


def way_through(told, node):
    """The nodes behind the root on the way through layers to a node of the last one."""
    way = []
    for layer in told[:0:-1]:
        way.append(node)
        node = layer[node][1]
    return way[::-1]


def fewest_to_ends(graph, before, ends):
    """By nodes from which ways lead to some ends, the fewest deeds on such a way, and the next node on it.

    `before` is what `nodes_before` tells of the graph.
    """
    told = {}
    queue = [(0, end, None) for end in ends]
    while queue:
        deeds, node, onward = heappop(queue)
        if node in told:
            continue
        told[node] = (deeds, onward)
        for ahead in before[node]:
            if ahead not in told:
                heappush(queue, (deeds + graph.edges[ahead][node], ahead, node))
    return told


def way_to_end(told, node):
    """The nodes behind a node on its way to an end, of those that `fewest_to_ends` tells."""
    way = []
    while told[node][1] is not None:
        node = told[node][1]
        way.append(node)
    return way


def take_last_word(graph, root, turned):
    """Take the nodes of the word that the last deed put from the front of a way, and tell its standing.

    The way is turned, its front last. None if no deed made anything of it.
    """
    at = root
    while turned:
        if (at, turned[-1]) in graph.makers:
            return graph.makers[(at, turned[-1])]
        at = turned.pop()
    return None


def put_back_taken(graph, turned, stop):
    """Put the nodes in front of a way that a deed took before it stopped there in a standing."""
    node = graph.passed[(stop, turned[-1])]
    while graph.before[(stop, node)] is not None:
        turned.append(node)
        stop = graph.before[(stop, node)]
        node = graph.passed[(stop, node)]


def row_of_way(graph, root, way):
    """The number of the start, and the row of deeds, that make a way from a root to an end."""
    row = []
    turned = way[::-1]
    stop = take_last_word(graph, root, turned)
    while stop is not None:
        if graph.stops[stop][0] is not None:
            row.append(graph.stops[stop][0])
        put_back_taken(graph, turned, stop)
        stop = take_last_word(graph, ROOT, turned)
    return graph.ends.index(way[-1]), row[::-1]
