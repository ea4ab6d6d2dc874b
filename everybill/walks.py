"""The greatest gain of walks of any length through a finite graph.

A graph is a dict with the steps of each node. A step is a tuple (LABEL, GAIN, NODE) of the label by which it is told,
an integer that it adds, and the node to which it leads; labels of one node are different and ordered.
"""


def best_steps(steps):
    """Return the list of the steps that gain most to each node, each of them by the least label that does."""
    best = {}
    for label, gain, node in steps:
        if node not in best or (-gain, label) < best[node]:
            best[node] = (-gain, label)
    return [(label, -loss, node) for node, (loss, label) in best.items()]


def weighed(graph):
    """Return the graph with its gains multiplied, each minus 1, and the multiplier.

    No walk without a circle has as many steps as the multiplier. So of two walks the one that gains more stays ahead,
    among walks that gain the same the shortest one comes ahead, and just the circles that gain something still do.
    """
    many = len(graph) + 1
    return {node: [(label, gain * many - 1, target) for label, gain, target in graph[node]] for node in graph}, many


def improve(graph, worths, choices):
    """Improve the worth of each node once by its best step, and tell whether any was improved."""
    improved = False
    for node, steps in graph.items():
        worth = worths[node]
        for label, gain, target in steps:
            if gain + worths[target] > worth:
                worth = gain + worths[target]
                choices[node] = (label, target)
        if worth > worths[node]:
            worths[node] = worth
            improved = True
    return improved


def node_on_circle(choices):
    """Return a node from which the choices lead back to it, or None if there is none."""
    seen = {}
    for start in choices:
        node = start
        while node in choices and node not in seen:
            seen[node] = start
            node = choices[node][1]
        if seen.get(node) == start:
            return node
    return None


def around(choices, start):
    """Return the labels of the choices from this node back to it."""
    label, node = choices[start]
    labels = [label]
    while node != start:
        label, node = choices[node]
        labels.append(label)
    return tuple(labels)


def way_to(graph, start, goal):
    """Return the labels of a shortest walk from the start to the goal."""
    ways = {start: ()}
    waiting = [start]
    at = 0
    while goal not in ways:
        node = waiting[at]
        for label, gain, target in graph[node]:
            if target not in ways:
                ways[target] = (*ways[node], label)
                waiting.append(target)
        at += 1
    return ways[goal]


def best_way(graph, worths, node):
    """Return the labels of the walk from this node that has its worth, the least tuple if there are several."""
    labels = []
    while worths[node] > 0:
        best = [step for step in graph[node] if step[1] + worths[step[2]] == worths[node]]
        label, gain, node = min(best)
        labels.append(label)
    return tuple(labels)


def greatest_walk(graph, start):
    """Decide how much walks from the start can gain; each node can be reached from there.

    Return ("loop", LABELS, LOOP) with a walk and a circle behind it that gains something, or, if there is none,
    ("number", GAIN, LABELS) with the greatest gain and, of the shortest walks that have it, the least tuple of labels.
    """
    weights, many = weighed(graph)
    worths = {node: 0 for node in graph}
    choices = {}
    while improve(weights, worths, choices):
        # A choice is only made where it improves something, so a circle of choices always gains.
        node = node_on_circle(choices)
        if node is not None:
            return ("loop", way_to(graph, start, node), around(choices, node))
    return ("number", -(-worths[start] // many), best_way(weights, worths, start))


def greatest_gains(graph):
    """Return a dict with the greatest gain of the walks from each node, if no circle gains anything."""
    gains = {node: 0 for node in graph}
    while improve(graph, gains, {}):
        pass
    return gains
