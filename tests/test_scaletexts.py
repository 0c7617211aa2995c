"""The texts of scales: point F6."""

import random

from onescale.errors import BadText
from onescale.scales import scale_error
from onescale.scaletexts import read_scale, scale_text
from tests.support import ANY_VALUES, SMALL_SCALES, Case, random_scale

SOME, MANY = (((0, 2), (1, 1), (5, 0)), 3), (((0, 3), (1, 2), (2, 2), (3, 1)), 5)

GREAT = [
    (tuple([(button, 99999) for button in range(76, 100)]), 24 * 99999),
    (tuple([(button, 99999) for button in range(24)]), 1),
    (tuple([(4 * button, button) for button in range(24)]), 100),
    (((0, 99999),), 99999), (((99, 1),), 1), (((0, 0), (1, 1)), 1),
]


def plain_text(scale):
    """By the words of F6."""
    rows, bound = scale
    return "%d:" % bound + "".join(" %d=%d" % row for row in rows)


class Texts(Case):

    def test_texts_and_back(self):
        rng = random.Random(1)
        scales = SMALL_SCALES + GREAT + [random_scale(rng, rng.sample(range(100), 24), most) for most in (1, 99, 99999)]
        texts = []
        for scale in scales:
            text = scale_text(scale)
            texts.append(text)
            self.assertExact(text, plain_text(scale))
            self.assertExact(read_scale(text), scale)
        self.assertEqual(len(set(texts)), len(set(scales)))

    def test_bounds(self):
        self.assertExact(read_scale("99999: 0=99999"), (((0, 99999),), 99999))
        self.assertExact(read_scale("2399976: " + scale_text(GREAT[0]).split(": ")[1]), GREAT[0])
        for wrong in ("99999: 0=100000", "100000: 0=99999", "0: 0=1", "2: 0=1", "1: 100=1", "1: 0=0", "5: 0=2 1=2",
                      "2399977: " + scale_text(GREAT[0]).split(": ")[1], "-1: 0=1", "1: -1=1", "1: 0=-1"):
            self.assertRaisesExact(BadText(), read_scale, wrong)

    def test_24_and_25_rows(self):
        def text(many):
            return "1:" + "".join(" %d=1" % button for button in range(many))
        self.assertExact(len(read_scale(text(24))[0]), 24)
        self.assertRaisesExact(BadText(), read_scale, text(25))
        self.assertRaisesExact(BadText(), read_scale, text(0))

    def test_wrong_texts(self):
        for wrong in ("", " ", ":", "1", "1:", "1: ", "1:0=1", "1 : 0=1", "1:  0=1", " 1: 0=1", "1: 0=1 ", "1: 0=1\n", "1:\n0=1",
                      "1: 0 =1", "1: 0= 1", "1: 0==1", "1: 0=1=1", "1: =1", "1: 0=", "1: 0", "01: 0=1", "1: 00=1", "1: 0=01",
                      "+1: 0=1", "1: +0=1", "1: 0=+1", "1_0: 0=10", "1: 0=1  1=1", "1: 0=1, 1=1", "1: 1=1 0=1", "1: 0=1 0=1",
                      "a: 0=1", "1: a=1", "1: 0=a", "1.0: 0=1", "1: 0=1.0", "1: 0=1:", "1: 1: 0=1", "1:: 0=1", "1 0=1", "0=1",
                      ": 0=1", "1; 0=1", "None", "none", "1: none", "(((0, 1),), 1)", "\u0661: 0=1", "1: 0=\u0661", "\u00b2: 0=2",
                      "1: 0=1 1", "1: 0=1 =", "1: 0=1 1=", "0x1: 0=1", "1: 0=1e0", "00: 0=1", "1: 0=1\t1=1", "1:\t0=1"):
            self.assertRaisesExact(BadText(), read_scale, wrong)

    def test_texts_with_one_sign_turned(self):
        rng = random.Random(2)
        signs = "0123456789 :=-+,[]\na_"
        read = 0
        for scale in SMALL_SCALES[::9] + GREAT:
            text = scale_text(scale)
            for _ in range(40):
                place = rng.randrange(len(text) + 1)
                sign = rng.choice(signs)
                for turned in (text[:place] + sign + text[place:], text[:place] + sign + text[place + 1:],
                               text[:place] + text[place + 1:], text[:place]):
                    try:
                        found = read_scale(turned)
                    except BadText:
                        continue
                    read += 1
                    self.assertExact(scale_error(found), None)
                    self.assertExact(plain_text(found), turned)
        self.assertGreater(read, 200)

    def test_scales_near_by_are_all_read(self):
        # What is turned to the text of another scale is read.
        self.assertExact(read_scale("3: 0=2 1=1 5=0"), SOME)
        self.assertExact(read_scale("2: 0=2 1=1 5=0"), (SOME[0], 2))
        self.assertExact(read_scale("5: 0=3 1=2 2=2 3=1"), MANY)
        self.assertExact(read_scale("5: 0=3 1=2 2=2 30=1"), (MANY[0][:3] + ((30, 1),), 5))

    def test_thousands_of_figures_and_signs(self):
        for many in (8, 100, 5000, 19000):
            figures = "1" * many
            for wrong in (figures, figures + ": 0=1", "1: " + figures + "=1", "1: 0=" + figures, "0" * many + "1: 0=1",
                          "1: 0=" + "0" * many, "1: 0=1" + " " * many, " " * many + "1: 0=1", "1:" + " 0=1" * (many // 4),
                          "=" * many, ":" * many, " " * many, ": " * (many // 2), "1: " + "=" * many, "1: 0=1" + "\n" * many,
                          "1: 0=" + "9" * many, "-" * many + "1: 0=1"):
                self.assertRaisesExact(BadText(), read_scale, wrong)

    def test_any_value(self):
        read = 0
        for value in ANY_VALUES:
            self.assertLeavesAsItIs(read_scale, value)
            if type(value) is str and value == "1: 0=1":
                read += 1
                self.assertExact(read_scale(value), (((0, 1),), 1))
            elif type(value) is str and value == "2: 0=1 1=1":
                read += 1
                self.assertExact(read_scale(value), (((0, 1), (1, 1)), 2))
            else:
                self.assertRaisesExact(BadText(), read_scale, value)
        self.assertExact(read, 2)
