"""Each example of the document, as it is printed there.

The files in tests/examples hold them point by point. A line behind ">>> " is followed by what it returns, or by
"raises" and the error, or by neither where it sets names. What is set once stays set in the rest of the file.
"""

import pathlib

from onescale import errors
from tests.support import Case

FOLDER = pathlib.Path(__file__).parent / "examples"


def points_of(text):
    """The pairs of a point and of its calls, each with what is told behind it or None."""
    points = []
    for line in text.splitlines():
        if line.startswith("== "):
            points.append((line[3:], []))
        elif line.startswith(">>> "):
            points[-1][1].append([line[4:], None])
        elif line:
            points[-1][1][-1][1] = line
    return points


class Examples(Case):

    def check(self, names, call, told):
        """told is what stands behind the call, None if the call tells nothing."""
        if told is None:
            exec(call, names)
        elif told.startswith("raises "):
            wanted = eval(told[len("raises "):], dict(vars(errors)))
            self.assertRaisesExact(wanted, eval, call, names)
        else:
            self.assertExact(eval(call, names), eval(told, {}))

    def check_file(self, name, many):
        names = {}
        calls = 0
        for point, rows in points_of((FOLDER / name).read_text()):
            for call, told in rows:
                calls += 1
                with self.subTest(point=point, call=call):
                    self.check(names, call, told)
        self.assertEqual(calls, many)

    def test_trees(self):
        self.check_file("trees.txt", 29)

    def test_lots(self):
        self.check_file("lots.txt", 55)

    def test_nests(self):
        self.check_file("nests.txt", 23)

    def test_scales(self):
        self.check_file("scales.txt", 21)

    def test_fromlots(self):
        self.check_file("fromlots.txt", 14)

    def test_euclid(self):
        self.check_file("euclid.txt", 19)

    def test_shapes(self):
        self.check_file("shapes.txt", 9)

    def test_turns(self):
        self.check_file("turns.txt", 10)

    def test_looks(self):
        self.check_file("looks.txt", 16)

    def test_frames(self):
        self.check_file("frames.txt", 20)

    def test_deeds(self):
        self.check_file("deeds.txt", 19)

    def test_effects(self):
        self.check_file("effects.txt", 12)

    def test_boards(self):
        self.check_file("boards.txt", 30)

    def test_readme(self):
        lines = (FOLDER.parent.parent / "README.md").read_text().splitlines()
        starts = [place for place, line in enumerate(lines) if line.startswith("    >>> ")]
        names = {}
        for place in starts:
            told = lines[place + 1][4:]
            with self.subTest(call=lines[place]):
                self.check(names, lines[place][8:], None if told == "" or told.startswith(">>> ") else told)
        self.assertEqual(len(starts), 20)
