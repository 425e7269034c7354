import copy
import unittest
from fractions import Fraction

from rootcourt.errors import CourtError, NoShape
from rootcourt.linear import solved, solved_right
from tests.helper import Odd, anything, meant, no_tuples, some_fraction, source, told

NOUGHT = (0, 1)
ONE = (1, 1)


def wholes(rows):
    return [[(entry, 1) for entry in row] for row in rows]


def whole(row):
    return [(entry, 1) for entry in row]


def fractions(row):
    return [meant(entry) for entry in row]


def dot(one, other):
    return sum((left * right for left, right in zip(one, other)), Fraction(0))


def depends(column, others):
    """Whether a column is a sum of multiples of others: whether it adds nothing to their rank."""
    return rank(others + [column]) == rank(others)


def rank(columns):
    left = [list(column) for column in columns]
    found = 0
    while left:
        row = left.pop()
        place = next((place for place, entry in enumerate(row) if entry), None)
        if place is not None:
            found += 1
            left = [[entry - other[place] / row[place] * lead for entry, lead in zip(other, row)] for other in left]
    return found


def free_ones(rows):
    columns = [list(column) for column in zip(*[fractions(row) for row in rows])]
    return [place for place, column in enumerate(columns) if depends(column, columns[:place])]


def is_right(rows, right, paper):
    """What the document says of a paper of the right shape, by Python's fractions."""
    rows, right = [fractions(row) for row in rows], fractions(right)
    columns = list(zip(*rows))
    if paper[0] == "none":
        ys = fractions(paper[1])
        return [dot(column, ys) for column in columns] == [0] * len(columns) and dot(right, ys) == 1
    x, free, base, ys = fractions(paper[1]), paper[2], [fractions(one) for one in paper[3]], \
        [fractions(one) for one in paper[4]]
    led = [place for place in range(len(columns)) if place not in free]
    if [dot(row, x) for row in rows] != right or any(x[place] for place in free):
        return False
    for here, one in zip(free, base):
        if any(one[place] != (place == here) for place in free) or any(dot(row, one) for row in rows):
            return False
    for here, one in zip(led, ys):
        for place, column in enumerate(columns):
            wanted = -base[free.index(place)][here] if place in free else int(place == here)
            if dot(column, one) != wanted:
                return False
    return True


def some_equations(seed, many):
    random = source(seed)
    for turn in range(many):
        height, width = random.randint(1, 6), random.randint(1, 6)
        figures = random.choice((0, 0, 1, 1, 20))
        rows = [[some_fraction(random, figures) for place in range(width)] for row in range(height)]
        for row in range(1, height):
            if random.random() < 0.4:
                rows[row] = [left * 2 - right / 3 for left, right in zip(rows[random.randrange(row)], rows[0])]
        for place in range(width):
            if random.random() < 0.15:
                for row in rows:
                    row[place] = Fraction(0)
        right = [some_fraction(random, figures) for row in rows]
        if random.random() < 0.6:
            solution = [some_fraction(random, 1) for place in range(width)]
            right = [dot(row, solution) for row in rows]
        yield [[told(entry) for entry in row] for row in rows], [told(entry) for entry in right]


def written():
    return [
        (wholes([[1, 2], [0, 1]]), whole([3, 1])),
        (wholes([[1, 2], [2, 4]]), whole([3, 6])),
        (wholes([[1, 2], [2, 4]]), whole([3, 7])),
        (wholes([[0]]), whole([0])),
        (wholes([[0]]), whole([5])),
        (wholes([[3]]), whole([5])),
        (wholes([[0, 0, 0], [0, 0, 0]]), whole([0, 0])),
        (wholes([[0, 0, 0], [0, 0, 0]]), whole([0, -2])),
        (wholes([[0, 0, 2, 0, 3, 1]]), whole([4])),
        (wholes([[1], [2], [3], [4], [5], [6]]), whole([2, 4, 6, 8, 10, 12])),
        (wholes([[1], [2], [3], [4], [5], [6]]), whole([2, 4, 6, 8, 10, 11])),
        (wholes([[1, 1, 1], [1, 1, 2], [2, 2, 3]]), whole([1, 2, 3])),
        (wholes([[int(row == place) for place in range(6)] for row in range(6)]), whole(range(6))),
        (wholes([[0, 1, 2, 3, 4, 5]] * 6), whole([7] * 6)),
    ]


class Solving(unittest.TestCase):

    def check(self, rows, right):
        kept = copy.deepcopy((rows, right))
        paper = solved(rows, right)
        self.assertEqual((rows, right), kept)
        self.assertIs(type(paper), tuple)
        full = [row + [last] for row, last in zip(rows, right)]
        solvable = rank([fractions(row) for row in full]) == rank([fractions(row) for row in rows])
        if solvable:
            self.assertEqual((len(paper), paper[0]), (5, "all"))
            free = free_ones(rows)
            self.assertEqual(paper[2], free)
            lists = [paper[1]] + paper[3] + paper[4]
            self.assertEqual([len(one) for one in lists],
                             [len(rows[0])] * (1 + len(free)) + [len(rows)] * (len(rows[0]) - len(free)))
            self.assertTrue(all(type(one) is list for one in list(paper[1:]) + lists))
        else:
            self.assertEqual((len(paper), paper[0]), (2, "none"))
            self.assertTrue(type(paper[1]) is list and len(paper[1]) == len(rows))
        self.assertTrue(is_right(rows, right, paper))
        self.assertIs(solved_right(rows, right, paper), True)
        self.assertEqual(solved(rows, right), paper)
        self.assertEqual((rows, right), kept)
        return paper

    def test_written_ones(self):
        words = [self.check(rows, right)[0] for rows, right in written()]
        self.assertEqual(words, ["all", "all", "none", "all", "none", "all", "all", "none", "all", "all", "none", "all",
                                 "all", "all"])
        self.assertEqual(solved(wholes([[1, 2], [0, 1]]), whole([3, 1]))[1:4], (whole([1, 1]), [], []))
        self.assertEqual(solved(wholes([[1, 2], [2, 4]]), whole([3, 6]))[1:4], (whole([3, 0]), [1], wholes([[-2, 1]])))
        self.assertEqual(solved(wholes([[0, 0, 2, 0, 3, 1]]), whole([4]))[1:3], (whole([0, 0, 2, 0, 0, 0]), [0, 1, 3, 4, 5]))
        self.assertEqual(solved(wholes([[0]]), whole([0])), ("all", [NOUGHT], [0], [[ONE]], []))
        self.assertEqual(solved([[(2, 3)]], [(5, 7)])[1], [(15, 14)])
        self.assertEqual(solved(wholes([[0]]), [(5, 7)]), ("none", [(7, 5)]))

    def test_random_ones(self):
        words = [self.check(rows, right)[0] for rows, right in some_equations(500, 500)]
        self.assertTrue(words.count("none") > 50 and words.count("all") > 200)

    def test_great_ones(self):
        random = source(501)
        rows = [[told(some_fraction(random, 150)) for place in range(5)] for row in range(4)]
        self.check(rows, [told(some_fraction(random, 150)) for row in rows])
        rows.append(list(rows[0]))
        self.check(rows, [told(some_fraction(random, 150)) for row in rows])

    def test_every_solution_is_told(self):
        random = source(502)
        for rows, right in some_equations(503, 100):
            paper = solved(rows, right)
            if paper[0] == "all":
                x, free, base = paper[1:4]
                shares = [some_fraction(random, 1) for one in free]
                z = [entry + sum(share * meant(one[place]) for share, one in zip(shares, base))
                     for place, entry in enumerate(fractions(x))]
                self.assertEqual([dot(fractions(row), z) for row in rows], fractions(right))
                self.assertEqual([z[place] for place in free], shares)

    def test_lists_are_the_askers_own(self):
        rows, right = wholes([[1, 2, 0], [2, 4, 0]]), whole([3, 6])
        paper = solved(rows, right)
        kept = copy.deepcopy(paper)
        for one in list(paper[1:]) + paper[3] + paper[4]:
            one.append(None)
        self.assertEqual(solved(rows, right), kept)
        self.assertEqual(rows, wholes([[1, 2, 0], [2, 4, 0]]))


class Shapes(unittest.TestCase):

    def bad(self):
        row, fitting = whole([1, 2]), wholes([[1, 2], [3, 4]])
        seven = wholes([[1]] * 7)
        return [
            ([], []), ([], whole([1])), (seven, whole([1] * 7)), (seven, whole([1] * 6)), ([[]], whole([1])),
            ([[], []], whole([1, 1])), (wholes([[1] * 7]), whole([1])), (wholes([[1, 2], [3]]), whole([1, 2])),
            (wholes([[1], [3, 4]]), whole([1, 2])), ([row, []], whole([1, 2])), (fitting, whole([1])), (fitting, []),
            (fitting, whole([1, 2, 3])), (tuple(fitting), whole([1, 2])), ([tuple(row), row], whole([1, 2])),
            ([row, tuple(row)], whole([1, 2])), (fitting, tuple(whole([1, 2]))), (row, whole([1, 2])), (fitting, None),
            (None, whole([1])), ([None], whole([1])), ([row, None], whole([1, 2])), (fitting, {0: ONE, 1: ONE}),
            ({0: row}, whole([1])), ("ab", whole([1, 2])), (["ab"], whole([1])), (fitting, "ab"), (Odd(), whole([1])),
            ([Odd()], whole([1])), (fitting, Odd()), (5, 5), (True, False), ([[row]], [[ONE], ONE]),
        ]

    def test_refused(self):
        for rows, right in self.bad():
            for refusal in (NoShape, CourtError):
                with self.assertRaises(refusal):
                    solved(rows, right)

    def test_refused_ahead_of_any_look_at_the_paper(self):
        for rows, right in self.bad():
            for paper in (("none", whole([1])), ("all", [], [], [], []), None, (), Odd(), 5, "all"):
                with self.assertRaises(NoShape):
                    solved_right(rows, right, paper)

    def test_things_of_any_kind(self):
        for thing in anything():
            with self.assertRaises(NoShape):
                solved(thing, whole([1]))
            if not isinstance(thing, list):
                with self.assertRaises(NoShape):
                    solved([thing], whole([1]))
                with self.assertRaises(NoShape):
                    solved(wholes([[1]]), thing)

    def test_the_bounds(self):
        for height in (1, 6):
            for width in (1, 6):
                self.assertEqual(solved(wholes([[1] * width] * height), whole([1] * height))[0], "all")


class Papers(unittest.TestCase):

    def let_by(self, rows, right, paper):
        self.assertIs(solved_right(rows, right, paper), True)

    def refused(self, rows, right, paper):
        self.assertIs(solved_right(rows, right, paper), False)

    def test_none_of_others(self):
        rows, right = wholes([[1, 2], [2, 4], [3, 6]]), whole([3, 7, 9])
        self.let_by(rows, right, ("none", whole([-2, 1, 0])))
        # Added is what comes to nought at the right ones too.
        self.let_by(rows, right, ("none", whole([1, 1, -1])))
        self.let_by(rows, right, ("none", [(-1, 2), (1, 1), (-1, 2)]))
        for ys in ([-2, 1, 1], [2, -1, 0], [-4, 2, 0], [0, 0, 0], [3, 0, -1], [-2, 1], [-2, 1, 0, 0], []):
            self.refused(rows, right, ("none", whole(ys)))
        self.refused(wholes([[1, 2], [2, 4]]), whole([3, 6]), ("none", whole([-2, 1])))
        # All comes to nought but at one unknown.
        self.refused(wholes([[1, 2], [2, 5]]), whole([3, 7]), ("none", whole([-2, 1])))

    def test_none_with_one_thing_not_so(self):
        rows, right = wholes([[1, 2], [2, 4]]), whole([3, 7])
        self.let_by(rows, right, ("none", whole([-2, 1])))
        for paper in (["none", whole([-2, 1])], ("none",), ("none", whole([-2, 1]), []), ("None", whole([-2, 1])),
                      ("all", whole([-2, 1])), ("", whole([-2, 1])), (None, whole([-2, 1])), (whole([-2, 1]), "none"),
                      ("none", tuple(whole([-2, 1]))), ("none", [-2, 1]), ("none", [(-2, 1), True]), ("none", None),
                      ("none", [(-4, 2), (1, 1)]), ("none", [(2, -1), (1, 1)]), ("none", [(-2, 1), (True, 1)]),
                      ("none", [(-2, 1), (1, True)]), ("none", [[-2, 1], [1, 1]]), ("none", [(-2, 1), None]),
                      ("none", [(-2, 1), Odd()]), ("none", Odd()), (Odd(), Odd()), ("none", {0: (-2, 1), 1: ONE}),
                      ("none", [(-2.0, 1), (1, 1)]), (b"none", whole([-2, 1])), ("none", whole([-2, 1]), [], [], [])):
            self.refused(rows, right, paper)

    def test_another_choice_of_free_unknowns(self):
        rows, right = wholes([[1, 2]]), whole([4])
        self.assertEqual(solved(rows, right)[2], [1])
        self.let_by(rows, right, ("all", whole([4, 0]), [1], wholes([[-2, 1]]), wholes([[1]])))
        other = ("all", whole([0, 2]), [0], [[(1, 1), (-1, 2)]], [[(1, 2)]])
        self.let_by(rows, right, other)
        self.refused(rows, right, ("all", whole([2, 1]), [0], [[(1, 1), (-1, 2)]], [[(1, 2)]]))
        self.refused(rows, right, ("all", whole([0, 2]), [1], [[(1, 1), (-1, 2)]], [[(1, 2)]]))
        # Too many free ones, and too few.
        self.refused(rows, right, ("all", whole([0, 2]), [0, 1], wholes([[1, 0], [0, 1]]), []))
        self.refused(rows, right, ("all", whole([4, 0]), [], [], wholes([[1], [1]])))

    def test_choices_of_free_unknowns_at_random(self):
        random = source(504)
        many = 0
        for rows, right in some_equations(505, 150):
            places = list(range(len(rows[0])))
            random.shuffle(places)
            # Solved with the unknowns in another order, told in the order handed in.
            paper = solved([[row[place] for place in places] for row in rows], right)
            if paper[0] == "none":
                self.let_by(rows, right, paper)
                continue
            back = [places.index(place) for place in range(len(places))]
            free = sorted(places[place] for place in paper[2])
            base = [[one[place] for place in back]
                    for here, one in sorted(zip([places[place] for place in paper[2]], paper[3]))]
            led = [places[place] for place in range(len(places)) if place not in paper[2]]
            ys = [one for here, one in sorted(zip(led, paper[4]))]
            other = ("all", [paper[1][place] for place in back], free, base, ys)
            self.assertTrue(is_right(rows, right, other))
            self.let_by(rows, right, other)
            many += free != solved(rows, right)[2]
        self.assertGreater(many, 20)

    def test_other_ys(self):
        rows, right = wholes([[1, 2], [2, 4], [0, 1]]), whole([4, 8, 1])
        word, x, free, base, ys = solved(rows, right)
        self.assertEqual(len(ys), 2)
        for step in (1, -3):
            shifted = [[told(entry + step * add) for entry, add in zip(fractions(one), (2, -1, 0))] for one in ys]
            self.let_by(rows, right, (word, x, free, base, shifted))
        shifted = [[told(entry + add) for entry, add in zip(fractions(one), (2, -1, 1))] for one in ys]
        self.refused(rows, right, (word, x, free, base, shifted))

    def test_with_one_thing_not_so(self):
        many = 0
        for rows, right in list(written()) + list(some_equations(506, 60)):
            paper = solved(rows, right)
            for place in range(1, len(paper)):
                for other in self.spoiled_lists(paper[place]):
                    spoilt = paper[:place] + (other,) + paper[place + 1:]
                    self.assertEqual(solved_right(rows, right, spoilt), self.is_so(rows, right, spoilt))
                    many += 1
        self.assertGreater(many, 2000)

    def spoiled_lists(self, some):
        found = [tuple(some), None, some + [ONE], some + [[ONE]], some + [0], some + [None], some[:-1], some[1:],
                 some[::-1], {}, "", Odd(), (), [some], dict(enumerate(some)), [Odd()] * len(some), [None] * len(some)]
        for place, thing in enumerate(some):
            if isinstance(thing, list):
                found += [some[:place] + [other] + some[place + 1:] for other in self.spoiled_lists(thing)]
            elif isinstance(thing, tuple):
                others = [told(meant(thing) + 1), told(-meant(thing)), (2 * thing[0], 2 * thing[1]), list(thing), (True, 1),
                          (thing[0], True), thing[0], (float(thing[0] % 9), 1), (-thing[0], -thing[1]), Odd(), None]
                found += [some[:place] + [other] + some[place + 1:] for other in others]
            else:
                others = [thing + 1, thing - 1, -1, 6, 7, str(thing), float(thing), bool(thing), None, Odd(), (thing, 1)]
                found += [some[:place] + [other] + some[place + 1:] for other in others]
        return found

    def is_so(self, rows, right, paper):
        """Whether a spoiled paper happens to be right."""
        height, width = len(rows), len(rows[0])
        if paper[0] == "none":
            return self.is_fractions(paper[1], height) and is_right(rows, right, paper)
        word, x, free, base, ys = paper
        if not all(type(one) is list for one in (x, free, base, ys)) or not self.is_fractions(x, width):
            return False
        if not all(type(place) is int and 0 <= place < width for place in free) or sorted(set(free)) != free:
            return False
        if len(base) != len(free) or len(ys) != width - len(free):
            return False
        if not all(self.is_fractions(one, width) for one in base) or not all(self.is_fractions(one, height) for one in ys):
            return False
        return is_right(rows, right, paper)

    def is_fractions(self, thing, length):
        if type(thing) is not list or len(thing) != length:
            return False
        for one in thing:
            if type(one) is not tuple or len(one) != 2 or type(one[0]) is not int or type(one[1]) is not int:
                return False
            if one[1] < 1 or told(meant(one)) != one:
                return False
        return True

    def test_words_and_lengths(self):
        for rows, right in written():
            paper = solved(rows, right)
            for other in (list(paper), paper[:-1], paper[1:], paper + ([],), paper + (None,), (), (paper,), ("some",) + paper[1:],
                          ("All",) + paper[1:], (None,) + paper[1:], (True,) + paper[1:], (Odd(),) + paper[1:],
                          (list(paper[0]),) + paper[1:], ("none" if paper[0] == "all" else "all",) + paper[1:],
                          dict(enumerate(paper))):
                self.refused(rows, right, other)
        # Where no unknown is free, or all are, lists are empty.
        self.let_by(wholes([[0]]), whole([0]), ("all", [NOUGHT], [0], [[ONE]], []))
        self.refused(wholes([[0]]), whole([0]), ("all", [NOUGHT], [0], [[ONE]], ()))
        self.refused(wholes([[0]]), whole([0]), ("all", [NOUGHT], [False], [[ONE]], []))
        self.let_by(wholes([[1]]), whole([0]), ("all", [NOUGHT], [], [], [[ONE]]))
        self.refused(wholes([[1]]), whole([0]), ("all", [NOUGHT], (), [], [[ONE]]))
        self.refused(wholes([[1]]), whole([0]), ("all", [NOUGHT], [], (), [[ONE]]))
        self.refused(wholes([[1]]), whole([0]), ("all", [NOUGHT], [0], [[ONE]], []))

    def test_free_ones_that_do_not_rise(self):
        rows, right = wholes([[0, 0]]), whole([0])
        self.let_by(rows, right, ("all", whole([0, 0]), [0, 1], wholes([[1, 0], [0, 1]]), []))
        self.refused(rows, right, ("all", whole([0, 0]), [1, 0], wholes([[0, 1], [1, 0]]), []))
        self.refused(rows, right, ("all", whole([0, 0]), [0, 0], wholes([[1, 0], [1, 0]]), []))
        self.refused(rows, right, ("all", whole([0, 0]), [-2, -1], wholes([[1, 0], [0, 1]]), []))
        self.refused(rows, right, ("all", whole([0, 0]), [-1, 0], wholes([[0, 1], [1, 0]]), []))
        self.refused(rows, right, ("all", whole([0, 0]), [0, 2], wholes([[1, 0], [0, 1]]), []))

    def test_anything(self):
        for rows, right in written()[:5]:
            paper = solved(rows, right)
            for thing in anything():
                self.refused(rows, right, thing)
                self.refused(rows, right, ("none", thing))
                self.refused(rows, right, ("none", [thing] * len(rows)))
                self.refused(rows, right, (thing,) + paper[1:])
                self.refused(rows, right, ("all", thing, thing, thing, thing))
        rows, right = wholes([[1, 2]]), whole([4])
        word, x, free, base, ys = solved(rows, right)
        for thing in no_tuples():
            self.refused(rows, right, (word, [thing, thing], free, base, ys))
            self.refused(rows, right, (word, x, free, [thing], ys))
            self.refused(rows, right, (word, x, free, base, [thing]))
            if type(thing) is not int or thing != 1:
                self.refused(rows, right, (word, x, [thing], base, ys))


if __name__ == "__main__":
    unittest.main()
