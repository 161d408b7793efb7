"""Whether a step uses links as points 15 and 16 tell: names of what holds a node, or 0 for none."""

from coretower.steps import parts_of_role, place_name


def uses_links_well(step, links):
    """Whether a step uses its names as the list of links tells."""
    guards = parts_of_role(step, "guard")
    return places_fit(step, links) and locals_fit(step, links) and worths_fit(step, links) and all(
        [guard_fits(guard, links) for guard in guards])


def places_fit(step, links):
    """Whether the field of a place is that of a link's node."""
    return all([place[1] in links for place in parts_of_role(step, "place") if isinstance(place, tuple)])


def linked_place(step, links):
    """Whether the step has a place that is a link."""
    return any([place_name(place) in links for place in parts_of_role(step, "place")])


def locals_fit(step, links):
    """Whether the local that a step sets or drops is a link where it must be, and nowhere else."""
    if step[0] in ("take", "drop"):
        linked = True
    else:
        # What a cas tells its local is never a node.
        linked = step[0] != "cas" and linked_place(step, links)
    return all([(local in links) == linked for local in parts_of_role(step, "local")])


def worths_fit(step, links):
    """Whether the worths of a step are those of a link exactly if its place is one."""
    linked = linked_place(step, links)
    return all([worth_fits(worth, linked, links) for worth in parts_of_role(step, "worth")])


def worth_fits(worth, linked, links):
    """Whether a worth is that of a link, or of none."""
    if linked:
        return len(worth) == 1 and (worth[0] == 0 or worth[0] in links)
    return not any([part in links for part in worth])


def guard_fits(guard, links):
    """Whether the worth and the sign of a guard go with its local."""
    if guard is None:
        return True
    local, sign, worth = guard
    linked = local in links
    return worth_fits(worth, linked, links) and not (linked and sign == "<")
