"""Directed graphs on plain numbers. For each node there is the list of the nodes to which its arrows lead."""


def turned(followers, size):
    """For each of this many nodes, the ascending list of the nodes whose arrows lead to it."""
    leaders = [[] for _ in range(size)]
    for node in range(len(followers)):
        for follower in followers[node]:
            leaders[follower].append(node)
    return leaders


def component_numbers(followers):
    """For each node the number of its strong component. No arrow leads to a component with a greater number."""
    # Of the nodes that are left, the one that is finished last against the arrows lies in a component from which no
    # arrow leads to another one that is left. So a walk along the arrows meets just this component.
    numbers = [None] * len(followers)
    count = 0
    for start in reversed(finish_order(turned(followers, len(followers)))):
        if numbers[start] is None:
            found = unnumbered_nodes(followers, numbers, start)
            for node in found:
                numbers[node] = count
            count += 1
    return numbers


def finish_order(followers):
    """All nodes, in the order in which a walk in depth has seen all that follows them."""
    order = []
    seen = {}
    for start in range(len(followers)):
        waiting = [(start, False)]
        while waiting:
            node, finished = waiting.pop()
            if finished:
                order.append(node)
            elif node not in seen:
                seen[node] = True
                waiting.append((node, True))
                waiting.extend([(follower, False) for follower in followers[node] if follower not in seen])
    return order


def unnumbered_nodes(followers, numbers, start):
    """The nodes without a number to which a walk from this one leads over such nodes alone."""
    found = [start]
    seen = {start: True}
    waiting = [start]
    while waiting:
        node = waiting.pop()
        for follower in followers[node]:
            if numbers[follower] is None and follower not in seen:
                seen[follower] = True
                found.append(follower)
                waiting.append(follower)
    return found
