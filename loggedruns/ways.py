"""Ways through tables: dicts of nodes with their links, tuples whose last part is the node that they lead to."""


def searched(table, starts):
    """For each node to which links lead from the starts, the one ahead of it and the link; None for a start."""
    found = {start: None for start in starts}
    queue = list(found)
    at = 0
    while at < len(queue):
        node = queue[at]
        at += 1
        for link in table[node]:
            if link[-1] not in found:
                found[link[-1]] = (node, link)
                queue.append(link[-1])
    return found


def way_to(found, node):
    """The start from which a search came to a node, and the links between them, in sequence."""
    links = []
    while found[node] is not None:
        node, link = found[node]
        links.append(link)
    return (node, links[::-1])


def within(table, nodes):
    """The part of a table with these nodes alone, a dict, and the links between them."""
    return {node: [link for link in table[node] if link[-1] in nodes] for node in nodes}


def finished(table):
    """The nodes in the sequence in which a search in depth has done with them."""
    found, done = {}, []
    for start in table:
        stack = [] if start in found else [(start, 0)]
        found[start] = True
        while stack:
            node, at = stack.pop()
            links = table[node]
            while at < len(links) and links[at][-1] in found:
                at += 1
            if at == len(links):
                done.append(node)
            else:
                target = links[at][-1]
                found[target] = True
                stack.append((node, at))
                stack.append((target, 0))
    return done


def knots(table):
    """A number for each node: alike just if links lead there and back, no link leads to a lesser one."""
    back = {node: [] for node in table}
    for node, links in table.items():
        for link in links:
            back[link[-1]].append(node)
    found = {}
    number = 0
    for start in reversed(finished(table)):
        queue = [] if start in found else [start]
        number += len(queue)
        while queue:
            node = queue.pop()
            if node not in found:
                found[node] = number
                queue.extend(back[node])
    return found


def ringed(table):
    """For each node the links by which ways lead on and back to it."""
    numbers = knots(table)
    return {node: [link for link in links if numbers[link[-1]] == numbers[node]] for node, links in table.items()}


def ring(table, node, link):
    """The links of a way from a node back to it that begins with this link."""
    _, links = way_to(searched(table, [link[-1]]), node)
    return [link, *links]


# In a weighed table the first part of each link is a weight, 0 or 1.


def heavy_ring(table):
    """A node of a weighed table with a link of weight 1 by which ways lead back to it; None without one."""
    for node, links in ringed(table).items():
        for link in links:
            if link[0] == 1:
                return (node, link)
    return None


def highest(table):
    """For each node of a weighed table without heavy rings the greatest weight of the ways that lead to it."""
    numbers = knots(table)
    members = {number: [] for number in sorted(set(list(numbers.values())))}
    for node, number in numbers.items():
        members[number].append(node)
    tops = {number: 0 for number in members}
    for number, nodes in members.items():
        for node in nodes:
            for link in table[node]:
                there = numbers[link[-1]]
                tops[there] = max(tops[there], tops[number] + link[0])
    return {node: tops[number] for node, number in numbers.items()}


def tight(table, heights):
    """The part of a weighed table with those links alone that lead up, or down, just by their weight."""
    return {node: [link for link in links if heights[link[-1]] == heights[node] + link[0]]
            for node, links in table.items()}
