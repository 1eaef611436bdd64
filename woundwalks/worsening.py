"""Of each post the arm by which no walk ends well but from marks: of an asker, or of a word as one."""


def worst_arm(marked, ways, orders, post):
    """An arm of the post by which no way leads from a (crossing, stand) that isn't marked to one that is."""
    crossing, name, arms = post
    lost = [to for stand, called, to in ways if called == name and (crossing, stand) not in marked]
    behind = [stand for stand in orders.get(name, ()) if stand in lost]
    if not behind:
        return arms[0]
    # One may step back from the highest of these stands to all others:
    # so an arm with no mark at the highest one has none at the others either.
    return [arm for arm in arms if (arm, behind[-1]) not in marked][0]


def worst_world(web, asker, found):
    """A world in which walks end well just from these marks, which are all that there are."""
    marked = {mark: True for mark in found}
    orders = {name: stands for name, stands in asker[3]}
    return tuple([worst_arm(marked, asker[1], orders, post) for post in web[1]])
