"""The roads on time, and cheapest trees in which each hearer hears as early as can be."""

from hearkenway.cheapest import cheapest
from hearkenway.early import earliest
from hearkenway.nets import grows, lateness, need_hearers, need_net, need_place, serves


def on_time(net, root):
    """The net of the roads on time from the root, with the same places."""
    least = earliest(net, root)
    many, roads = net
    kept = []
    for start, end, cost, late in roads:
        if start in least and least[start] + late == least[end]:
            kept.append((start, end, cost, late))
    return (many, tuple(kept))


def is_on_time(net, root, hearers, ahead):
    """Whether a dict is a tree that serves each hearer with its least lateness."""
    need_net(net)
    need_place(net, root)
    need_hearers(net, hearers)
    if not grows(net, root, ahead) or not serves(root, hearers, ahead):
        return False
    least = earliest(net, root)
    told = lateness(net, root, ahead)
    return all(told[place] == least[place] for place in hearers)


def cheapest_on_time(net, root, hearers):
    """As cheapest, of the trees that serve the hearers on time."""
    # The roads on time lead just where all roads lead, so what is closed for them is closed for the whole net.
    return cheapest(on_time(net, root), root, hearers)
