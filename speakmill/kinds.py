"""Kinds: their parts, and how they are written."""

from speakmill.walking import built_up


def kind_parts(kind):
    return list(kind[1:])


def kind_text(kind):
    return built_up(kind, kind_parts, text_with)


def text_with(kind, texts):
    form = kind[0]
    within = [text_within(part, text) for part, text in zip(kind_parts(kind), texts)]
    if form == "list":
        return "list of " + within[0]
    if form == "fn":
        return "fn " + within[0] + " to " + within[1]
    return form


def text_within(part, text):
    if part[0] in ("list", "fn"):
        return "(" + text + ")"
    return text
