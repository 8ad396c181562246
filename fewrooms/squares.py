"""Nets in rows, squares and steps, with the fewest rooms for their last work by their own rules."""

from fewrooms.plainly import plain_plan, plan_in_order


def row_net(n, back):
    return tuple([tuple(range(max(0, work - back), work)) for work in range(n)])


def square_needs(m, i, j):
    above = ((i - 1) * m + j,) if i > 0 else ()
    ahead = (i * m + j - 1,) if j > 0 else ()
    return above + ahead


def square_net(n, m):
    return tuple([square_needs(m, work // m, work % m) for work in range(n * m)])


def step_net(n):
    net = [()] * n
    ahead = 0
    for length in range(n - 1, 0, -1):
        # The row ahead is one work longer, and begins at the work that ahead tells.
        net.extend([(ahead + place, ahead + place + 1) for place in range(length)])
        ahead += length + 1
    return tuple(net)


def row_rooms(n, back):
    return min(n, back + 1)


def square_rooms(n, m):
    if n * m == 1:
        return 1
    return min(n, m) + 1


def step_rooms(n):
    return 1 if n == 1 else n + 1


def row_plan(n, back):
    return plain_plan(row_net(n, back), (n - 1,))


# The works of a square, column by column.
def by_columns(n, m):
    order = []
    for j in range(m):
        order.extend([i * m + j for i in range(n)])
    return order


# Along the shorter side, as the results of one such line are all kept for the next one.
def square_plan(n, m):
    order = by_columns(n, m) if n < m else list(range(n * m))
    return plan_in_order(square_net(n, m), (n * m - 1,), order)


def step_plan(n):
    net = step_net(n)
    return plain_plan(net, (len(net) - 1,))
