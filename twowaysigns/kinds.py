"""Kinds: of which parts of patterns closed terms are cases."""

from twowaysigns.errors import BadKind, NotAPattern
from twowaysigns.parttables import PartTable, told_part
from twowaysigns.terms import parts_in_order, row_occurrences, sign_order, term_order, variables_of


def pattern_parts(signature, patterns):
    """Return the parts of the patterns that are not variables, as least tellings, each once, in order."""
    for index, pattern in enumerate(patterns):
        if len(row_occurrences((pattern,))) > len(variables_of(pattern)):
            raise NotAPattern(index)
    keyed = {}
    for part in [part for pattern in patterns for part in parts_in_order(pattern) if not isinstance(part, str)]:
        told = told_part(signature, part)
        keyed[term_order(signature, told)] = told
    return tuple([keyed[key] for key in sorted(keyed)])


def kind_of(signature, patterns, term):
    """Return the indexes of those parts of the patterns of which the closed term is a case."""
    return _kind_by(_table_of(signature, patterns), term)


def kinds_of(signature, patterns):
    """Return a pair of kind and first closed term for each kind, in the order by size of these terms."""
    return tuple([(kind, term) for _, _, kind, term in _first_terms(_table_of(signature, patterns))])


def are_closed_kinds(signature, patterns, kinds):
    """Tell whether the kinds contain those of all constants and of all applications to arguments of these kinds."""
    parts = pattern_parts(signature, patterns)
    for index, kind in enumerate(kinds):
        if not _lists_parts(kind, len(parts)):
            raise BadKind(index)
    table = PartTable(signature, parts)
    given = {kind: True for kind in kinds}
    for name, arguments, _ in _all_applications(signature, list(given)):
        if table.kind_of_application(name, arguments) not in given:
            return False
    return True


def count_kinds(signature, patterns, size):
    """Return, for each pair of kinds_of, the number of closed terms of the size that have its kind."""
    table = _table_of(signature, patterns)
    kinds = [kind for _, _, kind, _ in _first_terms(table)]
    indexes = {kind: index for index, kind in enumerate(kinds)}
    steps = []
    for name, arguments, two_way in _all_applications(signature, kinds):
        target = indexes[table.kind_of_application(name, arguments)]
        steps.append((tuple(sorted([indexes[kind] for kind in arguments])), two_way, target))
    counts = [[0] * len(kinds)]
    while len(counts) <= size:
        counts.append(_counts_of_next_size(counts, steps))
    return tuple(counts[size])


def _table_of(signature, patterns):
    return PartTable(signature, pattern_parts(signature, patterns))


def _kind_by(table, term):
    return table.kind_of_application(term[0], [_kind_by(table, argument) for argument in term[1:]])


def _lists_parts(kind, many):
    """Tell whether the kind consists of indexes below this number in ascending order, each once."""
    lowest = 0
    for index in kind:
        if not lowest <= index < many:
            return False
        lowest = index + 1
    return True


def _first_terms(table):
    """Return the first closed term of each kind, in the order by size, as (size, order string, kind, term).

    A first term consists of first terms, and it is larger than these. So what is least of all that
    can be made of those that are found already is the next one.
    """
    found = []
    known = {}
    waiting = [_application(table, name, ()) for name, _, _ in _constants(table.signature)]
    while waiting:
        first = min(waiting)
        found.append(first)
        known[first[2]] = True
        waiting.extend([_application(table, name, arguments)
                        for name, arguments, _ in _applications_to_last(table.signature, found)])
        waiting = [other for other in waiting if other[2] not in known]
    return found


def _application(table, name, arguments):
    """Return (size, order string, kind, term) for the application to arguments for which this is passed."""
    if table.signature.is_two_way(name):
        arguments = sorted(arguments, key=lambda argument: argument[1])
    size = 1 + sum([argument[0] for argument in arguments])
    key = sign_order(table.signature, (name,)) + "".join([argument[1] for argument in arguments])
    kind = table.kind_of_application(name, [argument[2] for argument in arguments])
    return size, key, kind, (name,) + tuple([argument[3] for argument in arguments])


def _constants(signature):
    return [(name, (), False) for name, arity, _ in signature.symbols if arity == 0]


def _all_applications(signature, items):
    """Return all ways to apply symbols to the items, as (name, arguments, whether the symbol is two-way)."""
    found = _constants(signature)
    for index in range(len(items)):
        found.extend(_applications_to_last(signature, items[:index + 1]))
    return found


def _applications_to_last(signature, items):
    """Return those ways to apply symbols to the items in which the last item is an argument.

    For a two-way symbol two items are put in one order only.
    """
    last = items[-1]
    found = []
    for name, arity, two_way in signature.symbols:
        if arity == 1:
            found.append((name, (last,), False))
        if arity == 2:
            found.extend([(name, (item, last), two_way) for item in items])
        if arity == 2 and not two_way:
            found.extend([(name, (last, item), False) for item in items[:-1]])
    return found


def _counts_of_next_size(counts, steps):
    """Return the number of closed terms of the next size for each kind.

    The numbers for smaller sizes are passed, and the steps: by which argument kinds, in ascending
    order, to which kind.
    """
    size = len(counts)
    pairs = _counts_of_pairs(counts)
    found = [0] * len(counts[0])
    for arguments, two_way, target in steps:
        many = int(size == 1)
        if len(arguments) == 1:
            many = counts[size - 1][arguments[0]]
        if len(arguments) == 2:
            many = pairs[arguments]
            if two_way and arguments[0] == arguments[1]:
                # Of two terms that are not alike, each order was counted; alike ones were counted once.
                many = (many + _even_count(counts, arguments[0])) // 2
        found[target] += many
    return found


def _counts_of_pairs(counts):
    """Return, for each two kinds, how many pairs of terms of these kinds make up the next size with one symbol."""
    total = len(counts) - 1
    kinds = range(len(counts[0]))
    return {(one, two): sum([counts[left][one] * counts[total - left][two] for left in range(1, total)])
            for one in kinds for two in kinds if one <= two}


def _even_count(counts, kind):
    half, rest = divmod(len(counts) - 1, 2)
    return 0 if rest else counts[half][kind]
