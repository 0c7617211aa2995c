"""Each example of the document, as it is printed there.

The files in tests/examples hold them point by point. A line behind ">>> " is followed by what it returns, or by
"raises" and the error, or by neither where it sets names. What is set once stays set in the rest of the file.
"""

import pathlib

from onescale import errors
from tests.support import Case

FOLDER = pathlib.Path(__file__).parent / "examples"


def points_of(text):
    """The pairs of a point and of its calls, each with what is told behind it or None."""
    points = []
    for line in text.splitlines():
        if line.startswith("== "):
            points.append((line[3:], []))
        elif line.startswith(">>> "):
            points[-1][1].append([line[4:], None])
        elif line:
            points[-1][1][-1][1] = line
    return points


class Examples(Case):

    def check(self, names, call, told):
        if told is None:
            exec(call, names)
        elif told.startswith("raises "):
            wanted = eval(told[len("raises "):], dict(vars(errors)))
            self.assertRaisesExact(wanted, eval, call, names)
        else:
            self.assertExact(eval(call, names), eval(told, {}))

    def check_file(self, name, many):
        names = {}
        calls = 0
        for point, rows in points_of((FOLDER / name).read_text()):
            for call, told in rows:
                calls += 1
                with self.subTest(point=point, call=call):
                    self.check(names, call, told)
        self.assertEqual(calls, many)

    def test_trees(self):
        self.check_file("trees.txt", 29)

    def test_lots(self):
        self.check_file("lots.txt", 55)

    def test_nests(self):
        self.check_file("nests.txt", 23)

    def test_scales(self):
        self.check_file("scales.txt", 21)
