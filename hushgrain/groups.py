"""Groups of readers that may share answers, each the ascending tuple of their names."""


def ordered(groups):
    """Return the groups as a list, each once: shorter ones first, then in ascending order."""
    return sorted(sorted(set(groups)), key=len)


def all_groups(readers, declared):
    """Return the empty group, every single reader and the declared groups, in order."""
    return ordered([()] + [(reader,) for reader in readers] + list(declared))


def effective_groups(groups, cleared):
    """Return the groups without the readers that are cleared, in order."""
    return ordered([tuple([reader for reader in group if reader not in cleared]) for group in groups])
