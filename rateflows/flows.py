"""Flows: boxes and the pipes between them."""

from rateflows.checks import check_box, check_flow, check_marks


def into(flow, box):
    """Return the ascending tuple of the pipes that lead to a box."""
    check_flow(flow)
    check_box(flow, box)
    return tuple([place for place, pipe in enumerate(flow[1]) if pipe[1] == box])


def out_of(flow, box):
    """Return the ascending tuple of the pipes that lead from a box."""
    check_flow(flow)
    check_box(flow, box)
    return tuple([place for place, pipe in enumerate(flow[1]) if pipe[0] == box])


def parts(flow):
    """Return the ascending tuple of the ascending tuples of boxes that pipes join."""
    check_flow(flow)
    links = pipe_links(flow)
    return grouped(flow[0], links + [(other, one) for one, other in links])


def knots(flow):
    """Return the ascending tuple of the ascending tuples of boxes that lead to one another."""
    check_flow(flow)
    return grouped(flow[0], pipe_links(flow))


def is_tied(flow):
    """Tell whether the boxes of each part lead to one another."""
    return parts(flow) == knots(flow)


def marks(flow):
    """Return the tuple of the tokens on all pipes."""
    check_flow(flow)
    return tuple([pipe[4] for pipe in flow[1]])


def with_marks(flow, some):
    """Return the flow with other tokens."""
    check_flow(flow)
    check_marks(flow, some)
    return holding(flow, some)


def turned(flow):
    """Return the flow with each pipe turned about."""
    check_flow(flow)
    boxes, pipes = flow
    return boxes, tuple([(other, one, eat, give, start) for one, other, give, eat, start in pipes])


def holding(flow, held):
    """Return the flow with other tokens, however many, as firings may leave more than a flow may start with."""
    boxes, pipes = flow
    return boxes, tuple([pipe[:4] + (tokens,) for pipe, tokens in zip(pipes, held)])


def pipe_links(flow):
    """Return the list of the pairs of boxes from which and to which the pipes lead."""
    return [(pipe[0], pipe[1]) for pipe in flow[1]]


def reached(links, box):
    """Return a dict of the boxes to which links lead from a box, itself among them."""
    found = {box: True}
    waiting = [box]
    while waiting:
        here = waiting.pop()
        for one, other in links:
            if one == here and other not in found:
                found[other] = True
                waiting.append(other)
    return found


def grouped(boxes, links):
    """Return the ascending tuple of the ascending tuples of boxes that links lead to one another."""
    reach = [reached(links, box) for box in range(boxes)]
    groups = []
    for box in range(boxes):
        group = [other for other in range(boxes) if other in reach[box] and box in reach[other]]
        # Each group is met once for each of its boxes, and taken at its least one.
        if group[0] == box:
            groups.append(tuple(group))
    return tuple(groups)
