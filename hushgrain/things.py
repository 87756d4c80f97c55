"""What is asked of any object: integers, bools, strings, None, tuples and lists in one another."""


def is_integer(thing):
    """Tell whether the thing is an int that is not a bool."""
    return isinstance(thing, int) and not isinstance(thing, bool)


def frozen(thing):
    """Return the thing with all lists in it turned into tuples."""
    if not isinstance(thing, (tuple, list)):
        return thing
    # A stack of its own, because any object may be nested deeper than calls can be.
    stack = [(thing, [])]
    while True:
        source, built = stack[-1]
        if len(built) < len(source):
            part = source[len(built)]
            if isinstance(part, (tuple, list)):
                stack.append((part, []))
            else:
                built.append(part)
        else:
            stack.pop()
            if not stack:
                return tuple(built)
            outer = stack[-1][1]
            outer.append(tuple(built))
