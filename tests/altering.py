"""Values of all kinds, and values with some part replaced, to call with what may be any value."""

ODD = (
    None, True, False, 0, 1, -1, 7, 10 ** 59, -(10 ** 59), "", "sure", "x", "a\nb", "x" * 3000, (), ((),), ((), ()), [], [()], {}, {"a": 1},
    {(): []}, ((((),),),), (None, None), ("x", "y", "z"), [[], [1, "a", {"b": (2, None)}]], tuple(range(200)), list(range(-100, 100)),
)


def nested(levels):
    """Values that are nested so deep."""
    found = []
    for wrap in (lambda value: (value,), lambda value: [value], lambda value: {"a": value}, lambda value: (0, value)):
        value = None
        for _ in range(levels):
            value = wrap(value)
        found.append(value)
    return found


def parts(value, path=()):
    """The paths to all parts of the value that lie in tuples, itself included."""
    yield path
    if type(value) is tuple:
        for at, item in enumerate(value):
            yield from parts(item, path + (at,))


def part_at(value, path):
    for at in path:
        value = value[at]
    return value


def replaced_at(value, path, part):
    """The value with another part at this path."""
    if not path:
        return part
    at = path[0]
    return value[:at] + (replaced_at(value[at], path[1:], part),) + value[at + 1:]


def others(source, part):
    """Some other values, mostly of the same kind, in the place of this part."""
    if type(part) is tuple:
        found = [list(part), part + (part[-1:] or (0,)), part + part, None]
        if part:
            at = source.randrange(len(part))
            found += [part[:at] + part[at + 1:], part[:at] + part[at:at + 1] + part[at:], part[::-1], part[1:], part[:-1], dict(enumerate(part))]
            if len(part) > 1:
                k = source.randrange(len(part) - 1)
                found.append(part[:k] + (part[k + 1], part[k]) + part[k + 2:])
        return found
    if type(part) is int:
        return [part + 1, part - 1, str(part), None, -1, 10 ** 59] + ([bool(part)] if part in (0, 1) else [])
    if type(part) is str:
        return [part + "x", part[:-1], None, (part,), {"gone": "there", "there": "gone", "sure": "noticed"}.get(part, "asked")]
    return [0, (), "x"] + list(ODD[:3])


def altered(source, value):
    """The value with one part replaced; it may be the same again."""
    path = source.choice(list(parts(value)))
    return replaced_at(value, path, source.choice(others(source, part_at(value, path))))
