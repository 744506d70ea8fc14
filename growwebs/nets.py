"""Nets: nodes and links, and what lies on all ways between two nodes.

The item of a link says what it stands for. Two nodes may have several links.
"""


class Net:
    """Nodes with told items, and links (node, node, item)."""

    def __init__(self):
        self.nodes = []
        self.links = []
        self.lines = []


def add_node(net, told):
    """Add a node and return its number."""
    net.nodes.append(told)
    net.lines.append([])
    return len(net.nodes) - 1


def add_link(net, one, other, item):
    """Add a link between two different nodes."""
    net.lines[one].append((other, len(net.links)))
    net.lines[other].append((one, len(net.links)))
    net.links.append((one, other, item))


def path_between(net, start, goal):
    """The pair (nodes, links) of some way that comes to no node twice, None if there is none."""
    came = {goal: None}
    waiting = [goal]
    while waiting and start not in came:
        here = waiting.pop()
        for other, link in net.lines[here]:
            if other not in came:
                came[other] = (here, link)
                waiting.append(other)
    if start not in came:
        return None
    nodes = [start]
    links = []
    while nodes[-1] != goal:
        here, link = came[nodes[-1]]
        nodes.append(here)
        links.append(link)
    return nodes, links


def furthest_beside(net, place, start, barred, met):
    """The greatest place on a path to which one comes from a node of it, beside the path.

    place has the places of the nodes of the path; the barred link is not gone, and what has been
    met is not looked at again.
    """
    furthest = 0
    waiting = [start]
    while waiting:
        for other, link in net.lines[waiting.pop()]:
            if link == barred:
                continue
            if other in place:
                furthest = max(furthest, place[other])
            elif other not in met:
                met[other] = True
                waiting.append(other)
    return furthest


def directed(net, link, here):
    """The pair (item of a link, whether it is gone from its first node to its second one)."""
    one, _, item = net.links[link]
    return (item, one == here)


def on_all_ways(net, start, goal):
    """What lies on all ways: the list of nodes, both ends too, and what is between each two.

    Between two nodes there is the pair (item, forward) of the only link there, or None if more
    than one way leads from the one to the other. The whole is None if there is no way.
    """
    path = path_between(net, start, goal)
    if path is None:
        return None
    nodes, links = path
    place = {node: at for at, node in enumerate(nodes)}
    met = {}
    found = [start]
    between = []
    furthest = 0
    alone = False
    for at in range(len(links)):
        if at > 0 and furthest == at:
            between.append(directed(net, links[at - 1], nodes[at - 1]) if alone else None)
            found.append(nodes[at])
        furthest = max(furthest, furthest_beside(net, place, nodes[at], links[at], met))
        alone = furthest <= at
        furthest = max(furthest, at + 1)
    if links:
        between.append(directed(net, links[-1], nodes[-2]) if alone else None)
        found.append(goal)
    return found, between
