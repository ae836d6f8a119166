"""Choices of places: as few as possible, so that each of some families has what it needs."""


def _is_met(family, chosen):
    """Tells whether all places of one of the options are chosen."""
    return any([all([place in chosen for place in option]) for option in family])


def _first_unmet(families, chosen):
    """The first family that is not met by the chosen places, or None."""
    for family in families:
        if not _is_met(family, chosen):
            return family
    return None


def _unlike(families, most):
    """The families without those that others repeat, and without options that are too long."""
    found = {}
    for family in families:
        options = tuple(sorted(set([option for option in family if len(option) <= most])))
        found[options] = True
    return list(found)


def first_choice(families, most):
    """The first tuple of places among the shortest ones that meet each family, or None.

    A family is a list of options, ascending tuples of places. A tuple meets it if all places of one
    of the options are in the tuple, which is ascending and has at most so many items.
    """
    unlike = _unlike(families, most)
    best = None
    seen = {(): True}
    left = [()]
    while left:
        chosen = left.pop()
        family = _first_unmet(unlike, chosen)
        if family is None:
            if best is None or (len(chosen), chosen) < (len(best), best):
                best = chosen
            continue
        for option in family:
            # Whatever meets this family, too, has all places of one of its options.
            wider = tuple(sorted(set(chosen + option)))
            if len(wider) <= most and wider not in seen:
                seen[wider] = True
                left.append(wider)
    return best
