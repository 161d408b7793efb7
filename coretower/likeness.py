"""Whether tables answer alike, and which states and operations of a table cannot be told apart."""

from coretower.errors import OtherNames, SameName
from coretower.tables import Table


def alike(a, b):
    """Whether every row of calls gets the same answers from both tables."""
    return parting(a, b) is None


def parting(a, b):
    """None if the tables are alike; otherwise the first of the shortest rows whose last call tells them apart."""
    return meeting(a, b)[1]


def likeness(a, b):
    """None unless the tables are alike; the ascending list of the pairs of states to which rows of calls lead."""
    pairs, row = meeting(a, b)
    return sorted(pairs) if row is None else None


def meeting(a, b):
    """The pairs of states to which rows lead, and None; or those up to the first parting row, and this row."""
    if sorted(a.names()) != sorted(b.names()):
        raise OtherNames()
    found = [(a.first, b.first)]
    # The pair that each pair was found from, and the call.
    back = {found[0]: (None, "")}
    at = 0
    while at < len(found):
        pair = found[at]
        for name in a.names():
            answer, goal = a(name, pair[0])
            other_answer, other_goal = b(name, pair[1])
            if answer != other_answer:
                return found, row_to(pair, back) + [name]
            if (goal, other_goal) not in back:
                back[(goal, other_goal)] = (pair, name)
                found.append((goal, other_goal))
        at += 1
    return found, None


def row_to(pair, back):
    """The row of calls by which a pair was found."""
    row = []
    pair, name = back[pair]
    while pair is not None:
        row.append(name)
        pair, name = back[pair]
    return row[::-1]


def found_states(table):
    """The states that rows of calls lead to, in the order in which a breadth-first search finds them."""
    found = [table.first]
    seen = {table.first: True}
    at = 0
    while at < len(found):
        for name in table.names():
            goal = table(name, found[at])[1]
            if goal not in seen:
                seen[goal] = True
                found.append(goal)
        at += 1
    return found


def classes_of(table):
    """For each state a number that just the states alike to it have."""
    classes = [0 for _ in range(table.size)]
    many = 0
    while many < len(set(classes)):
        many = len(set(classes))
        classes = finer(table, classes)
    return classes


def finer(table, classes):
    """Classes of the states that agree in class, in answers and in the classes of the next states."""
    numbers = {}
    found = []
    for state in range(table.size):
        pairs = [table(name, state) for name in table.names()]
        told = (classes[state], tuple([(answer, classes[goal]) for answer, goal in pairs]))
        found.append(numbers.setdefault(told, len(numbers)))
    return found


def least(table):
    """The least table that is alike to this one."""
    classes = classes_of(table)
    numbers = {}
    leaders = []
    for state in found_states(table):
        if classes[state] not in numbers:
            numbers[classes[state]] = len(leaders)
            leaders.append(state)
    rows = {}
    for name in table.names():
        pairs = [table(name, state) for state in leaders]
        rows[name] = [(answer, numbers[classes[goal]]) for answer, goal in pairs]
    return Table(rows, 0)


def trade(table, p, q):
    """Whether two operations trade places."""
    table.check_name(p)
    table.check_name(q)
    if p == q:
        raise SameName(p)
    classes = classes_of(table)
    for state in found_states(table):
        p_first, q_second, end = both(table, p, q, state)
        q_first, p_second, other_end = both(table, q, p, state)
        if (p_first, q_first) != (p_second, q_second) or classes[end] != classes[other_end]:
            return False
    return True


def both(table, name, then, state):
    """The answers of two calls, one behind the other, and the state that they lead to."""
    answer, middle = table(name, state)
    second, end = table(then, middle)
    return answer, second, end


def silent(table, name):
    """Whether an operation only leads to states that are alike to those from which it does."""
    table.check_name(name)
    classes = classes_of(table)
    return all([classes[table(name, state)[1]] == classes[state] for state in found_states(table)])
