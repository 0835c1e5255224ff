"""Values of all kinds that may be handed in, and how refusals are checked."""

from anyasked.desk import Desk
from anyasked.errors import AskedError
from anyasked.pages import Page
from anyasked.sheets import Sheet
from anyasked.tables import Table

SMALL = "in 100 near\nasked all\npart yes of all"


def nested(make, deep):
    """A value within so many others."""
    value = "all"
    for _ in range(deep):
        value = make(value)
    return value


def any_values():
    """Values of all kinds, made anew."""
    page = Page(SMALL)
    table = Table(page, (3,))
    plain = [
        0, 1, -1, 2, 3, 4, 7, 50, 99, 100, 101, 999999999, -999999999, True, False, None,
        "", " ", "0", "1", "100", "near", "none", "some", "None", "all", "yes", "ALL", "all ", "in 100 near",
        SMALL.replace("near", "up ") + "\n",
    ]
    tuples = [(), (1,), (1, 2), ("all",), (100, "near", None), ((100, "near"),), (0, 1, 2, 3), (None, None)]
    lists = [[], [1], ["all"], [100, "near"], [[1], [2]], [None]]
    dicts = [{}, {"all": 1}, {100: "near"}, {1: [2, (3,)]}, {"b": 100, "how": "near"}]
    objects = [page, AskedError("all"), [page], (page,), {"page": page}, (100, page), (page, "near")]
    objects += [table, [table], ("table", table), {"all": table}]
    sheet, desk = Sheet(page), Desk(SMALL + "\ntold")
    objects += [sheet, desk, [sheet], (sheet,), ("all", desk), {"sheet": sheet}, sheet.trial()]
    deep = [
        nested(lambda value: [value], 30),
        nested(lambda value: (value,), 30),
        nested(lambda value: {"all": value}, 30),
    ]
    return plain + tuples + lists + dicts + objects + deep


def is_plain_integer(value):
    return isinstance(value, int) and not isinstance(value, bool)


class Refusals:
    """Beside TestCase: checks what a call raises."""

    def refuses(self, error, value, call, /, *args, **more):
        """The call raises just this error, with this very value."""
        with self.assertRaises(AskedError) as caught:
            call(*args, **more)
        self.assertIs(caught.exception.__class__, error, (args, more))
        self.assertIs(caught.exception.value, value)

    def refuses_line(self, error, number, call, *args):
        """The call raises just this error, with the number of a line."""
        with self.assertRaises(AskedError, msg=args) as caught:
            call(*args)
        self.assertIs(caught.exception.__class__, error, args)
        self.assertIs(caught.exception.value.__class__, int, args)
        self.assertEqual(caught.exception.value, number, args)
