"""The greatest sums of walks, each step of which adds an amount."""


def _circling(came):
    """One node of each circle in which each node came of the one that is noted for it."""
    visit = [None for _ in came]
    found = []
    for start in range(len(came)):
        node = start
        while node is not None and visit[node] is None:
            visit[node] = start
            node = came[node]
        if node is not None and visit[node] == start:
            found.append(node)
    return found


def _improved(edges, sums, came):
    """Whether a sum became greater by a step more, each step being gone once."""
    better = False
    for node, further, amount in edges:
        total = sums[node] + amount
        if sums[further] is None or total > sums[further]:
            sums[further] = total
            came[further] = node
            better = True
    return better


def _all_behind(edges, starts):
    """These nodes and all that come of them."""
    onward = {}
    for node, further, _ in edges:
        onward.setdefault(node, []).append(further)
    found = {node: True for node in starts}
    waiting = list(found)
    while waiting:
        node = waiting.pop()
        for further in onward.get(node, []):
            if further not in found:
                found[further] = True
                waiting.append(further)
    return found


def greatest_sums(number, starts, edges):
    """For each of so many nodes the greatest sum of the walks to it, and the node that it then comes of.

    The starts are pairs (node, amount), the edges (node, node behind it, amount) in such an order that each node but
    the starts is behind one ahead of its own edges. A node has None for a sum if there is no bound.
    """
    sums = [None for _ in range(number)]
    came = [None for _ in range(number)]
    for node, amount in starts:
        sums[node] = amount
    while _improved(edges, sums, came):
        # A node that came of itself adds more than 0 on the way round: all behind it have no bound.
        circling = _circling(came)
        if circling:
            endless = _all_behind(edges, circling)
            edges = [edge for edge in edges if edge[1] not in endless]
            for node in endless:
                sums[node] = came[node] = None
    return sums, came
