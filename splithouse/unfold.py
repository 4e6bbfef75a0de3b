"""Unfolding: which columns a set fixes by rules, and into which blocks the other columns fall."""

from splithouse.sets import all_of


def can_use(rule, block):
    """Whether the rule can be used at the block."""
    if (rule[1] & block) != 0:
        return False
    taken = rule[2] & block
    if rule[0] == "settle":
        return taken != 0
    return taken != 0 and taken != block


def listed(block):
    """The block as a list of blocks: none, where it has no column."""
    if block == 0:
        return []
    return [block]


def used(rule, fixed, blocks, at):
    """The fixed columns and the blocks behind the use of the rule at the block with the number at."""
    taken = blocks[at] & rule[2]
    rest = blocks[at] & ~rule[2]
    if rule[0] == "settle":
        return (fixed | taken, blocks[:at] + listed(rest) + blocks[at + 1:])
    return (fixed, blocks[:at] + [taken, rest] + blocks[at + 1:])


def begun(many, some):
    """The fixed columns and the blocks ahead of the first step."""
    return (some, listed(all_of(many) & ~some))


def first_use(rules, blocks):
    """The number of the first rule that can be used and that of the first block where it can, or None."""
    for number, rule in enumerate(rules):
        for at, block in enumerate(blocks):
            if can_use(rule, block):
                return (number, at)
    return None


def unfolded(many, rules, some):
    """The fixed columns, the blocks and the steps of unfolding the set by the rules."""
    now = begun(many, some)
    steps = []
    use = first_use(rules, now[1])
    while use is not None:
        steps.append((use[0], now[1][use[1]]))
        now = used(rules[use[0]], now[0], now[1], use[1])
        # A step may open the way for a rule ahead of its own, so rules are looked through from the first again.
        use = first_use(rules, now[1])
    return (now[0], now[1], steps)


def is_step(rules, blocks, step):
    """Whether the step is a use of one of the rules at one of the blocks."""
    # A number below 0 would count the rules from the end.
    if step[0] < 0 or step[0] >= len(rules):
        return False
    return step[1] in blocks and can_use(rules[step[0]], step[1])


def walked(many, rules, some, steps):
    """The fixed columns and the blocks behind the last of the steps, or None where one of them is none."""
    now = begun(many, some)
    for step in steps:
        if not is_step(rules, now[1], step):
            return None
        now = used(rules[step[0]], now[0], now[1], now[1].index(step[1]))
    return now
