"""Shows programs and terms as texts, with all their brackets."""

from speakmill.trees import parts_of
from speakmill.walking import built_up


def shown(program):
    return "\n".join([shown_function(function) for function in program])


def shown_function(function):
    return "def " + listed(function[1], function[2]) + " = " + shown_term(function[3])


def shown_term(term):
    return built_up(term, parts_of, term_text)


def listed(name, texts):
    return name + "(" + ", ".join(texts) + ")"


def term_text(term, texts):
    form = term[0]
    if form == "number":
        return str(term[1])
    if form == "truth":
        return "yes" if term[1] else "no"
    if form == "none":
        return "[]"
    if form == "name":
        return term[1]
    if form == "call":
        return listed(term[1], texts)
    return "(" + " ".join(bracketed_words(term, texts)) + ")"


def bracketed_words(term, texts):
    form = term[0]
    if form == "two":
        return [texts[0], term[1], texts[1]]
    if form == "one":
        return [term[1], texts[0]]
    if form == "if":
        return ["if", texts[0], "then", texts[1], "else", texts[2]]
    if form == "let":
        return ["let", term[1], "=", texts[0], "in", texts[1]]
    if form == "fn":
        return ["fn", term[1], "=>", texts[0]]
    return [texts[0], "!", texts[1]]
