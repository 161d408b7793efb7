"""Reads pages from their texts."""

from coretower.blocks import HEADS, Block
from coretower.errors import BadText, CoreError, NoThing, SameName
from coretower.pages import Page
from coretower.words import told_by
from coretower.writer import END


def page_of(text):
    """The Page that a text tells."""
    page = Page()
    block = None
    *lines, rest = text.split("\n")
    for at, line in enumerate(lines):
        words = line.split(" ")
        if block is None:
            block = begun_block(words)
            if block is None:
                raise BadText(at)
        elif words == [END]:
            put_block(page, block, at)
            block = None
        elif not block.accepts(words):
            raise BadText(at)
    if rest or block is not None:
        raise BadText(len(lines))
    return page


def begun_block(words):
    """The block whose head has these words, or None."""
    if words[0] not in HEADS:
        return None
    head = told_by(words[1:], ("name",) + HEADS[words[0]])
    return None if head is None else Block(words[0], head)


def put_block(page, block, at):
    """Put the thing of a block on the page; raise BadText for its end line if this cannot be."""
    lacking = [name for name, kind in block.needs() if not page.has(name, kind)]
    thing = None
    if not lacking:
        try:
            thing = block.made(page)
        except CoreError as e:
            raise BadText(at) from e
    name = block.head[0]
    if name in list(page):
        raise BadText(at) from SameName(name)
    twice = block.name_twice()
    if twice is not None:
        raise BadText(at) from SameName(twice)
    if lacking:
        raise BadText(at) from NoThing(lacking[0])
    page.put(name, block.word_of_kind, thing)
