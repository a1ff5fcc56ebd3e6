"""The tree of names."""


def tree_rows(numbers):
    """The rows (depth, segment, number) of the tree of some names, whose numbers are handed in by name."""
    rows = []
    told = {}
    for name in sorted(numbers, key=lambda one: one.split("/")):
        segments = name.split("/")
        for depth in range(len(segments)):
            begin = "/".join(segments[:depth + 1])
            if begin not in told:
                told[begin] = True
                rows.append((depth, segments[depth], numbers.get(begin)))
    return rows
