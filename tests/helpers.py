"""What several tests need: things of all kinds, texts of tables, and what is refused."""

from rowsbeneath.errors import NoText, RowsError
from rowsbeneath.tabletext import read_table

HEAD = "word 8 ; cells 16 ; depth 2 ; places a b ; marks m ; gate ; "

ODD_THINGS = (
    None, True, False, "", "a", "3", (), (1,), [], [3], ["add"], {}, {"a": 1}, {3: None}, 10 ** 29, -(10 ** 29),
    ("add", ()), [[]], RowsError("x"),
)


def with_body(body, fields="", head=HEAD):
    """A text with one kind."""
    return f"{head}kind add ( {fields} ) {body}"


def with_word(e, fields="n number"):
    """A text in which a place becomes this expression."""
    return with_body("{ set a = " + e + " ; next }", fields)


def refusal_of(question):
    """The refusal by which a question is answered, or None."""
    try:
        question()
    except RowsError as refusal:
        return refusal
    return None


def told_refusal(thing):
    """Of what is read as a table: the class and the fields of the refusal, or None."""
    refusal = refusal_of(lambda: read_table(thing))
    return None if refusal is None else (type(refusal), *vars(refusal).values())


def no_text_place(thing):
    """The number that NoText tells, or None where the form is right."""
    told = told_refusal(thing)
    return told[1] if told is not None and told[0] is NoText else None


def refuses(case, question, sort, *fields):
    """Looks that a question is refused, by just this class and with the very things."""
    refusal = refusal_of(question)
    case.assertIs(type(refusal), sort, fields)
    told = tuple(vars(refusal).values())
    case.assertEqual(len(told), len(fields))
    for has, wanted in zip(told, fields):
        case.assertTrue(has is wanted or type(has) is type(wanted) and type(has) in (int, str) and has == wanted, (has, wanted))
