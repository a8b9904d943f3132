"""Steps between nonterminals. steps[a] lists those to which one step leads from a."""


def led_to(steps, begin):
    reached = [False] * len(steps)
    waiting = [begin]
    while waiting:
        here = waiting.pop()
        for there in steps[here]:
            if not reached[there]:
                reached[there] = True
                waiting.append(there)
    return [a for a in range(len(steps)) if reached[a]]


def returning_marks(steps):
    return [a in led_to(steps, a) for a in range(len(steps))]
