"""The one form in which a page is told."""

from coretower.books import FULL, KINDS
from coretower.steps import FORMS

END = "end"


def told(page):
    """The text of a page."""
    return "".join([f"{line}\n" for name in page for line in told_block(page, name)])


def told_block(page, name):
    """The list of the lines of a block."""
    kind = page.kind(name)
    lines_of = LINES[kind]
    head, *lines = lines_of(page[name])
    return [" ".join([kind, name] + head)] + [" ".join(words) for words in lines] + [END]


def names_word(names):
    """Some names as a word."""
    return ",".join(names) if names else "-"


def figures(numbers):
    """The figure words of some numbers."""
    return [str(number) for number in numbers]


def pair_words(pairs):
    """The words of some pairs of kinds."""
    return [f"{first}>{second}" for first, second in pairs]


def table_lines(table):
    """The words behind the name in the head of a table, and those of its lines."""
    return [[str(table.first)]] + operation_lines(table)


def operation_lines(table):
    """The words of the lines of a table."""
    lines = []
    for name in table.names():
        row = [table(name, state) for state in range(table.size)]
        lines.append(["op", name] + [f"{answer}:{goal}" for answer, goal in row])
    return lines


def build_lines(build):
    """The words behind the name in the head of a build, and those of its lines."""
    lines = [figures([build.base, build.limit])]
    cells = build.cells()
    lines.extend([["cell", name, str(cells[name])] for name in cells])
    lines.extend([["field", name] for name in build.fields()])
    if build.links():
        lines.append(["links", names_word(build.links())])
    for name in build:
        operation = build[name]
        lines.append(["op", name] + figures([operation.turns, operation.otherwise]))
        lines.extend([step_words(step) for step in operation.steps()])
    return lines


def step_words(step):
    """The words of a step."""
    words = [step[0]]
    for part, role in zip(step[1:], FORMS[step[0]]):
        if role == "place":
            words.append("@".join(list(part)) if isinstance(part, tuple) else part)
        elif role == "worth":
            words.append(worth_word(part))
        elif role != "guard":
            words.append(part)
        elif part is not None:
            local, sign, worth = part
            words.extend(["if", local, sign, worth_word(worth)])
    return words


def worth_word(worth):
    """A worth as a word."""
    return "+".join(figures(worth))


def client_lines(client):
    """The words behind the name in the head of a client, none, and those of its lines."""
    lines = [[]]
    for menus, again in client:
        lines.append(["caller", "again" if again else "once"] + [names_word(menu) for menu in menus])
    return lines


def book_lines(book):
    """The words behind the name in the head of a book, none, and those of its lines."""
    lines = [[]]
    if len(book.kept) > 0:
        lines.append(["keep"] + pair_words(book.kept))
    fences = [name for name in book.fences() if name != FULL]
    return lines + [["fence", name] + pair_words(book.fence(name)) for name in fences]


def recipe_lines(thing):
    """The words behind the name in the head of a recipe, and those of its lines."""
    source, target, recipe = thing
    lines = [[source, target]]
    for name in recipe:
        if name in KINDS:
            ahead, kind, behind = recipe[name]
            lines.append(["row", name, kind, names_word(ahead), names_word(behind)])
        else:
            lines.append(["row", name, names_word(recipe[name])])
    return lines


def rule_lines(rule):
    """The words behind the name in the head of a rule, and those of its lines."""
    return [[names_word(rule.locks())]] + [["entry", names_word(held), name] for held, name in rule]


def plan_lines(plan):
    """The words behind the name in the head of a plan, none, and those of its lines."""
    return [[]] + [["guard", name, plan[name]] for name in plan]


def pool_lines(pool):
    """The words behind the name in the head of a pool."""
    return [[pool.rule, str(pool.size)]]


def chooser_lines(chooser):
    """The words behind the name in the head of a chooser, and those of its lines."""
    lines = [[str(chooser.callers)]]
    for groups, goals in chooser.states():
        words = [",".join(figures(group)) for group in groups]
        lines.append(["state", "|".join(words)] + figures(goals))
    return lines


def tower_lines(parts):
    """The words behind the name in the head of a tower, and those of its lines."""
    lines = [[parts["table"], parts["build"], parts["client"]]]
    by_book = "book" in parts or "recipe" in parts
    for part in ("pool", "book", "recipe", "window", "chooser"):
        if part in parts:
            lines.append([part, str(parts[part])])
        elif part == "window" and by_book:
            lines.append([part, "2"])
    return lines


LINES = {
    "table": table_lines, "build": build_lines, "client": client_lines, "book": book_lines, "recipe": recipe_lines,
    "rule": rule_lines, "plan": plan_lines, "pool": pool_lines, "chooser": chooser_lines, "tower": tower_lines,
}
