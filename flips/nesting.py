"""Things that hold things of their own kind, within bounds on how many there are and how deep they lie."""


# Level by level, so that a thing far beyond the bounds is left as soon as it is beyond them.
def keeps_to(has_form, parts_within, is_beyond, thing):
    level = [thing]
    depth = 1
    many = 1
    while len(level) > 0:
        if is_beyond(many, depth):
            return False
        below = []
        for part in level:
            if not has_form(part):
                return False
            below.extend(parts_within(part))
        level = below
        depth = depth + 1
        many = many + len(level)
    return True
