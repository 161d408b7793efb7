"""The forms of lines as point 48 tells them, as patterns, to compare the reader with."""

import re

NAME = "[a-z]{1,8}"
FIGURE = "(?:0|[1-9][0-9]{0,2})"
NAMES = f"(?:-|{NAME}(?:,{NAME})*)"
KIND = "(?:read|acquire|write|release|both)"
PART = f"(?:{NAME}|{FIGURE})"
WORTH = rf"{PART}(?:\+{PART})*"
PLACE = f"{NAME}(?:@{NAME})?"
GROUP = f"{FIGURE}(?:,{FIGURE})*"
PAIR = f"{NAME}>{NAME}"
GUARD = f"(?: if {NAME} [=!<] {WORTH})?"

HEADS = {
    "table": FIGURE, "build": f"{FIGURE} {FIGURE}", "client": "", "book": "", "recipe": f"{NAME} {NAME}", "rule": NAMES,
    "plan": "", "pool": f"{NAME} {FIGURE}", "chooser": FIGURE, "tower": f"{NAME} {NAME} {NAME}"}
STEP = "|".join([
    f"(?:read|acquire) {NAME} {PLACE}{GUARD}", f"(?:write|release) {PLACE} {WORTH}{GUARD}", f"swap {NAME} {PLACE} {WORTH}{GUARD}",
    f"cas {NAME} {PLACE} {WORTH} {WORTH}{GUARD}", f"fence {NAME}{GUARD}", f"(?:lock|free) {NAME}",
    f"(?:take|drop) {NAME}{GUARD}", f"give {WORTH}{GUARD}"])
# For each kind, the stages: a pattern, and whether its lines may be repeated.
STAGES = {
    "table": [(f"op {NAME}(?: {FIGURE}:{FIGURE})+", True)],
    "build": [(f"cell {NAME} {FIGURE}", True), (f"field {NAME}", True), (f"links {NAMES}", False),
              (f"op {NAME} {FIGURE} {FIGURE}", True)],
    "client": [(f"caller (?:once|again)(?: {NAMES})+", True)],
    "book": [(f"keep(?: {PAIR})+", False), (f"fence (?!full\\b){NAME}(?: {PAIR})*", True)],
    "recipe": [(f"row {KIND} {KIND} {NAMES} {NAMES}|row {NAME} {NAMES}", True)],
    "rule": [(f"entry {NAMES} {NAME}", True)],
    "plan": [(f"guard {NAME} {NAME}", True)],
    "pool": [],
    "chooser": [(rf"state {GROUP}(?:\|{GROUP})*(?: {FIGURE})+", True)],
    "tower": [(f"pool {NAME}", False), (f"(?:book|recipe) {NAME}", False), (f"window {FIGURE}", False),
              (f"chooser {NAME}", False)],
}


def first_fault(text):
    """The number of the first line without its form at its place, or of the lines if an end lacks; None without one."""
    lines = text.split("\n")
    kind, stage, stepping = None, 0, False
    for number, line in enumerate(lines[:-1]):
        if kind is None:
            heads = [kind for kind, form in HEADS.items() if re.fullmatch(f"{kind} {NAME}{' ' if form else ''}{form}", line)]
            if not heads:
                return number
            kind, stage, stepping = heads[0], 0, False
        elif line == "end":
            kind = None
        elif kind == "build" and stepping and re.fullmatch(STEP, line):
            continue
        else:
            fits = [at for at, (form, _) in enumerate(STAGES[kind]) if at >= stage and re.fullmatch(form, line)]
            if not fits:
                return number
            stage = fits[0] if STAGES[kind][fits[0]][1] else fits[0] + 1
            stepping = line.startswith("op ")
    if lines[-1] or kind is not None:
        return len(lines) - 1
    return None
