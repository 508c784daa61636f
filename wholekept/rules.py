"""Rules: lists of numbers, each second one telling what the one before it is renamed to."""


def told_numbers(rule):
    """The rule's first, third, fifth number and so on."""
    return [rule[index] for index in range(0, len(rule), 2)]


def is_rule(rule):
    """Whether the list tells for whole pairs, without a number below 0, and for no number twice."""
    if len(rule) % 2 == 1:
        return False
    if any([number < 0 for number in rule]):
        return False
    told = told_numbers(rule)
    return len(set(told)) == len(told)


def rule_names(rule):
    """A dict from each number that the rule tells to what it is renamed to."""
    names = {}
    for index in range(0, len(rule), 2):
        names[rule[index]] = rule[index + 1]
    return names
