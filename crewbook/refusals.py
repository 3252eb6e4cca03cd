"""Refusal trees: why a situation has no book."""

from crewbook.crewsets import check_people
from crewbook.refusalplans import RefusalPlan


def refusal_paper(crews, present, crew, width, *, kept=()):
    """Return a refusal tree of the situation, or None if it is booked."""
    check_people(crews, present, crew, kept)
    plan = RefusalPlan(crews, present, width, kept)
    known = plan.known_page(present, crew)
    part = plan.others(known)
    if plan.fits(known, part):
        return None
    return tree_of(planned_nodes(plan, known, part))


def planned_nodes(plan, known, part):
    """Return the nodes of a tree in preorder, each as (steps, set of the end, crews of the branches)."""
    found = []
    # A loop instead of recursion, here and below: a tree may be deep.
    waiting = [(known, part)]
    while waiting:
        pages, rest = waiting.pop()
        steps, people, branches = plan.node(pages, rest)
        found.append((steps, people, [branch[0] for branch in branches]))
        waiting.extend([branch[1:] for branch in branches[::-1]])
    return found


def tree_of(nodes):
    """Return the tree with these nodes in preorder."""
    done = []
    # From behind, the nodes of all branches are done before the node, that of the first branch last.
    for steps, people, crews in nodes[::-1]:
        branches = []
        for crew in crews:
            branches.append((crew, done.pop()))
        end = ("split", people, tuple(branches)) if branches else ("none", people)
        done.append((steps, end))
    return done[0]
