"""Plans that do each needed work once and clear each result as soon as it is of no more use."""

from fewrooms.nets import all_needed, levels


# The order holds all that the asked works need, each work behind its needs.
def plan_in_order(net, asked, order):
    last_user = {}
    for work in order:
        for need in net[work]:
            last_user[need] = work
    plan = []
    for work in order:
        plan.append(("do", work))
        # What a do makes useless is among its own needs, and these rise.
        for need in net[work]:
            if last_user[need] == work and need not in asked:
                plan.append(("clear", need))
    return plan


def plain_plan(net, asked):
    return plan_in_order(net, asked, all_needed(net, asked))


def deep_order(net, asked):
    height = levels(net)
    order = []
    done = {}
    # A stack of its own, as needs may lie deeper than calls may go.
    due = list(reversed(asked))
    while due:
        undone = [need for need in net[due[-1]] if need not in done]
        if undone:
            due.append(min(undone, key=lambda need: (-height[need], need)))
        else:
            # Never done already: asked works rise, and none is needed by a lesser one.
            work = due.pop()
            done[work] = True
            order.append(work)
    return order


def deep_plan(net, asked):
    return plan_in_order(net, asked, deep_order(net, asked))
