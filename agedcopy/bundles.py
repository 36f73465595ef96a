"""Living copies of one state that go in any order: which of them have met, and in which bundle each one lies.

A copy is (number, mark, below): below are the copies that it has met, but for those that stand below one of these. A
position is a sequence of bundles; a bundle is a sequence of the copies in it that stand below no other one.
"""


def copies_in(copies):
    """The (number, mark) of some copies and of all below them."""
    found = []
    for number, mark, below in copies:
        found.append((number, mark))
        found.extend(copies_in(below))
    return found


def numbers_in(copies):
    """The ascending numbers of some copies and of all below them."""
    return sorted([number for number, _ in copies_in(copies)])


def living_numbers(position):
    """The ascending numbers of all living copies."""
    return sorted([number for bundle in position for number in numbers_in(bundle)])


def most_parted(copies):
    """How many of some copies, and of those below them, are parted two by two, at most."""
    return sum([max(1, most_parted(below)) for _, _, below in copies])


def width_of(position):
    """The most living copies that are parted two by two."""
    return sum([most_parted(bundle) for bundle in position])


def without_copy(copies, number):
    """Some copies with all below them, but for the one of a number: those below it stay."""
    found = []
    for copy in copies:
        if copy[0] == number:
            found.extend(copy[2])
        else:
            found.append((copy[0], copy[1], without_copy(copy[2], number)))
    return tuple(found)


def with_drop(position, number):
    """The position once a copy is given up; a bundle of which no copy lives is none any more."""
    bundles = [without_copy(bundle, number) for bundle in position]
    return tuple([bundle for bundle in bundles if bundle != ()])


def with_copy(position, met, number, mark):
    """The position once a copy is kept that has met the copies of some bundles, told by their indexes."""
    below = tuple([copy for at in met for copy in position[at]])
    return tuple([bundle for at, bundle in enumerate(position) if at not in met]) + (((number, mark, below),),)


def parted_marks(position, met):
    """The marks of copies from which a new one is parted, told by their indexes which bundles it has met."""
    return [mark for at, bundle in enumerate(position) if at not in met for _, mark in copies_in(bundle)]


def copies_text(copies, names):
    """A text of some copies and of all below them, told the names of their marks; their order does not matter."""
    return "".join(sorted([f"({names[mark]}{copies_text(below, names)})" for _, mark, below in copies]))


def marks_in_order(copies, names):
    """The marks of some copies and of all below them, in an order that only hangs on how they stand, and on names."""
    found = []
    for copy in sorted(copies, key=lambda told: copies_text((told,), names)):
        found.append(copy[1])
        found.extend(marks_in_order(copy[2], names))
    return found


def named_marks(position, names):
    """By mark its number in such an order, as a text."""
    found = {}
    for bundle in sorted(position, key=lambda told: copies_text(told, names)):
        for mark in marks_in_order(bundle, names):
            found.setdefault(mark, str(len(found)))
    return found


def position_key(position):
    """A text of a position: positions of one text differ in the numbers of copies and the names of marks alone."""
    # Without names first, so that the names hang on how the copies stand.
    names = {mark: "" for bundle in position for _, mark in copies_in(bundle)}
    for _ in range(2):
        names = named_marks(position, names)
    return "/".join(sorted([copies_text(bundle, names) for bundle in position]))
