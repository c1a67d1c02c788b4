"""Runs the examples of the document as they stand there.

A row of examples is a text: lines behind ">>> " are done one behind another, with the names that were set ahead, and
the line below one, if there is any, is what comes: a value, or "raises" and an error.
"""

from narrowadds import errors


def check_examples(case, text):
    """Do the examples of text; case fails at the first that does not come as it is told."""
    names = {}
    lines = [line.strip() for line in text.strip().splitlines()]
    for line, behind in zip(lines, lines[1:] + [""]):
        if not line.startswith(">>> "):
            continue
        with case.subTest(line):
            told = "" if behind.startswith(">>> ") else behind
            case.assertEqual(outcome(line[4:], told, names), told)


def outcome(code, told, names):
    """Return what code tells, in the words of the document."""
    if not told:
        exec(code, names)
        return ""
    try:
        return repr(eval(code, names))
    except errors.AddsError as error:
        return "raises " + error_text(error)


def error_text(error):
    """Return the call that would make error anew."""
    return f"{error.__class__.__name__}({', '.join([repr(worth) for worth in vars(error).values()])})"
