"""Gadgets: small nets that stand for what grows from a kind, for all that lies on every way.

A gadget is a pair (extras, links). Its nodes are the mouth places 0, 1, 2 and behind them the
extras, places further in where three ways part. A link is a triple (node, node, chain); the chain
is None where there is more than one way between, otherwise the tuple (cuts, bridges, nodes,
items) of what is on all ways: how many places strictly between and how many ties, the nodes
strictly between in the net of the piece, and the pair (item, forward) of what is between those.

In the net of a piece or of a patch an item (number of the piece, None, tie) stands for a tie, and
(number of the piece, bud, link) for a link of the gadget of a bud, None for one without a chain.
A node (number of the piece, None, number) is a new place, (number of the piece, bud, extra) an
extra of the gadget of a bud.
"""

from growwebs.nets import Net, add_link, add_node, on_all_ways
from growwebs.patches import free_buds, piece_at
from growwebs.pieces import MOUTH, spot_of
from growwebs.search import common_length


def add_ties(net, at, piece, nodes):
    """Add the ties of a piece whose places have these nodes."""
    for number, tie in enumerate(piece.ties):
        add_link(net, nodes[spot_of(piece, tie[0])], nodes[spot_of(piece, tie[1])], (at, None, number))


def add_gadget(net, at, piece, number, nodes, gadgets):
    """Add the gadget of a bud of a piece."""
    kind, told = piece.buds[number]
    extras, links = gadgets[kind]
    ends = [nodes[spot_of(piece, place)] for place in told]
    for extra in range(len(extras)):
        ends.append(add_node(net, (at, number, extra)))
    for index, link in enumerate(links):
        item = None if link[2] is None else (at, number, index)
        add_link(net, ends[link[0]], ends[link[1]], item)


def net_of_piece(piece, gadgets):
    """The net of a piece with gadgets at all its buds; its places have the first nodes."""
    net = Net()
    nodes = [add_node(net, None) for _ in range(piece.mouth)]
    for number in range(len(piece.letters)):
        nodes.append(add_node(net, (0, None, number)))
    add_ties(net, 0, piece, nodes)
    for number in range(len(piece.buds)):
        add_gadget(net, 0, piece, number, nodes, gadgets)
    return net


def net_of_patch(patch, gadgets):
    """The net of a patch with gadgets at its free buds; its places have the first nodes."""
    net = Net()
    for at, number in patch.homes:
        add_node(net, (at, None, number))
    for at in range(len(patch.kinds)):
        piece = piece_at(patch, at)
        add_ties(net, at, piece, patch.spots[at])
        for number in free_buds(patch, at):
            add_gadget(net, at, piece, number, patch.spots[at], gadgets)
    return net


def weight_of(item, kinds, plan, gadgets):
    """The pair (cuts, bridges) within an item; kinds has those of the pieces of the net."""
    if item is None:
        return (0, 0)
    at, number, index = item
    if number is None:
        return (0, 1)
    kind = plan.pieces[kinds[at]].buds[number][0]
    return gadgets[kind][1][index][2][:2]


def chain_of(net, found, between, kinds, plan, gadgets):
    """The chain of what lies on all ways; kinds has those of the pieces of the net."""
    weights = []
    items = []
    for told in between:
        # A link without a chain is as good as several ones: nothing in it lies on all ways.
        kept = None if told is None or told[0] is None else told
        items.append(kept)
        weights.append(weight_of(None if kept is None else kept[0], kinds, plan, gadgets))
    cuts = len(found) - 2 + sum([weight[0] for weight in weights])
    bridges = sum([weight[1] for weight in weights])
    inner = tuple([net.nodes[node] for node in found[1:-1]])
    return (cuts, bridges, inner, tuple(items))


def from_letter(told, letter, other):
    """What lies on all ways from one of two mouth places to the other one."""
    if letter < other:
        return told[(letter, other)]
    found, between = told[(other, letter)]
    turned = [None if step is None else (step[0], not step[1]) for step in between]
    return found[::-1], turned[::-1]


def arm_of(told, letter):
    """What lies on all ways from one of three mouth places to both others, up to the parting."""
    others = [other for other in range(len(MOUTH)) if other != letter]
    found, between = from_letter(told, letter, others[0])
    size = common_length(found, from_letter(told, letter, others[1])[0])
    return found[:size], between[:size - 1]


def parted_gadget(net, told, kind, plan, gadgets):
    """The gadget of a kind whose three mouth places are joined."""
    arms = [arm_of(told, letter) for letter in range(len(MOUTH))]
    ends = []
    for found, _ in arms:
        if found[-1] not in ends:
            ends.append(found[-1])
    extras = [node for node in ends if node >= len(MOUTH)]
    named = {node: len(MOUTH) + at for at, node in enumerate(extras)}
    for letter in range(len(MOUTH)):
        named[letter] = letter
    links = []
    for letter, (found, between) in enumerate(arms):
        if len(found) > 1:
            chain = chain_of(net, found, between, [kind], plan, gadgets)
            links.append((letter, named[found[-1]], chain))
    for at, node in enumerate(ends):
        for other in ends[at + 1:]:
            links.append((named[node], named[other], None))
    return (tuple([net.nodes[node] for node in extras]), tuple(links))


def gadget_of(kind, plan, gadgets):
    """The gadget of a kind, given those of the kinds of its buds."""
    piece = plan.pieces[kind]
    net = net_of_piece(piece, gadgets)
    told = {}
    for one in range(piece.mouth):
        for other in range(one + 1, piece.mouth):
            found = on_all_ways(net, one, other)
            if found is not None:
                told[(one, other)] = found
    if len(told) == len(MOUTH):
        return parted_gadget(net, told, kind, plan, gadgets)
    links = []
    for one, other in told:
        found, between = told[(one, other)]
        links.append((one, other, chain_of(net, found, between, [kind], plan, gadgets)))
    return ((), tuple(links))


def gadget_tables(plan):
    """The gadgets of all kinds of a book, worked out once."""
    if "gadgets" not in plan.tables:
        gadgets = {kind: ((), ()) for kind in plan.pieces}
        while True:
            # In a web that is grown further, more is joined, then less lies on all ways: since
            # both come to an end, so does this.
            told = {kind: gadget_of(kind, plan, gadgets) for kind in plan.pieces}
            if told == gadgets:
                break
            gadgets = told
        plan.tables["gadgets"] = gadgets
    return plan.tables["gadgets"]
