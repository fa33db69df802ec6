"""That what stands between may be struck, shown by doublings and undoublings alone [22]."""


def shown(x, y, z):
    """Steps that lead from x + y + z to x + z."""
    # z is first said as z + x + z: then x + (y + z) + x + z is there, of which x + z is left.
    return parted(z, x, len(x) + len(y)) + closed(x, y + z, 0)


def closed(x, y, at):
    """Steps from x + y + x, which begins at the place at, to x; y has no words but x's."""
    both = len(x) + len(y)
    # x + y + x is x + y + (x + y + more), which is x + y + more, which is x.
    return (steps("double", pieces(x, y), at + both)
            + [("single", at, both)]
            + steps("single", pieces(x, y)[::-1], at))


def parted(x, y, at):
    """Steps from x, which begins at the place at, to x + y + x; y has no words but x's."""
    both = len(x) + len(y)
    return (steps("double", pieces(x, y), at)
            + [("double", at, both)]
            + steps("single", pieces(x, y)[::-1], at + both))


def pieces(x, y):
    """The pieces that, doubled one behind another, make x into x + y + more; y has no words but x's."""
    told = []
    for many in range(len(y)):
        # From the next word on to the end of what is reached so far is said again.
        row = (x + y[:many])[::-1]
        back = row.index(y[many]) + 1
        told.append((len(row) - back, back))
    return told


def steps(name, rows, at):
    """The pieces as steps of this name, done at the place at."""
    return [(name, at + place, many) for place, many in rows]
