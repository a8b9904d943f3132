"""Values of nonterminals that follow from rules in finitely many steps."""


# Every nonterminal starts out with begin, and a rule's symbols may only improve on what its owner has by then: so
# nothing is taken for true that rests upon itself alone. improved(known, symbols, values) tells the owner's new value.
def settled(begin, size, rules, improved):
    values = [begin] * size
    changed = True
    while changed:
        changed = False
        for rule in rules:
            known = values[rule.owner]
            value = improved(known, rule.symbols, values)
            if value != known:
                values[rule.owner] = value
                changed = True
    return values
