"""Builds something up from the parts of a tree, however deep the tree is."""


# A walk by calls would go as deep as the tree does; here lists keep what is still to be done.
def built_up(root, parts_in, made):
    met = []
    waiting = [root]
    while waiting:
        node = waiting.pop()
        parts = parts_in(node)
        met.append((node, len(parts)))
        waiting.extend(list(reversed(parts)))
    done = []
    for node, many in reversed(met):
        # What was made last is of the first part, as the walk goes backwards.
        made_parts = [done.pop() for part in range(many)]
        done.append(made(node, made_parts))
    return done.pop()
