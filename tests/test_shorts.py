"""Points 2 and 12 to 16: shorts, sizes, words put out, single steps."""

import random
import unittest

from helper import check_own, check_refused, scribble
from trueleaf.errors import BadCall, NoShort, TooLong
from trueleaf.shorts import new_short, one_step, put_out, size_of
from trueleaf.trees import tree_of, written


def read(row, count=None):
    return tree_of(row.split(), count)


def told(*rows):
    """A list of shorts, from rows of a name, a count and a body."""
    shorts = []
    for row in rows:
        name, count, *body = row.split()
        shorts.append(new_short(shorts, name, int(count), tree_of(body, int(count))))
    return shorts


def words_of(shorts, row):
    return " ".join(put_out(shorts, read(row)))


SHORTS = told(
    "e 0",
    "two 0 u v",
    "same 1 $1",
    "dup 1 $1 $1",
    "swap 2 $2 $1",
    "mix 2 a $1 [dup $2 b ] [swap $1 | c ]",
    "call 0 [mix x | [two ] ]",
    "three 3 [swap [dup $1 ] | $2 $3 ] $2",
    "nine 9 $9 $8 $7 $6 $5 $4 $3 $2 $1",
)


def wrapped(name, deep, nodes):
    for level in range(deep):
        nodes = [("call", name, [nodes])]
    return nodes


class NewShorts(unittest.TestCase):
    def test_what_a_short_is(self):
        self.assertEqual(SHORTS[0], ("e", 0, [], [0], 0))
        self.assertEqual(SHORTS[1], ("two", 0, [("word", "u"), ("word", "v")], [2], 0))
        self.assertEqual(SHORTS[2], ("same", 1, [("place", 1)], [0, 1], 0))
        self.assertEqual(SHORTS[3], ("dup", 1, [("place", 1), ("place", 1)], [0, 2], 0))
        self.assertEqual(SHORTS[4], ("swap", 2, [("place", 2), ("place", 1)], [0, 1, 1], 0))
        for short in SHORTS:
            self.assertIs(type(short), tuple)
            self.assertIs(type(short[3]), list)
            self.assertEqual(len(short[3]), short[1] + 1)

    def test_shorts_that_call_shorts(self):
        self.assertEqual(SHORTS[5][3:], ([4, 2, 2], 2))
        self.assertEqual(SHORTS[6][3:], ([4 + 2 + 2 * 2], 1 + 1 + 2))
        self.assertEqual(SHORTS[7][3:], ([0, 2, 2, 1], 2))
        self.assertEqual(SHORTS[8][3:], ([0] + [1] * 9, 0))

    def test_rows_tell_what_is_put_out(self):
        for short in SHORTS:
            arguments = [read("p" * k + " q") for k in range(1, short[1] + 1)]
            words = put_out(SHORTS, [("call", short[0], arguments)])
            with self.subTest(short[0]):
                for k in range(1, short[1] + 1):
                    self.assertEqual(words.count("p" * k), short[3][k])
                self.assertEqual(len(words), short[3][0] + 2 * sum(short[3][1:]))

    def test_a_place_that_does_not_stand_in_the_nodes(self):
        for count, row in ((1, ""), (1, "x"), (2, "$1"), (2, "$2"), (3, "$1 $3 $1"), (1, "[same x ]"), (9, "$1 $2"),
                           (2, "[swap $1 | $1 ]")):
            with self.subTest(count=count, row=row):
                check_refused(self, BadCall, new_short, SHORTS, "new", count, read(row, count))

    def test_a_place_that_stands_only_within_a_call(self):
        for count, row, expected in ((1, "[same $1 ]", [0, 1]), (2, "[swap $2 | [dup $1 x ] ]", [2, 2, 1]),
                                     (2, "[mix $1 | $2 ] $1", [4, 3, 2])):
            with self.subTest(row):
                short = new_short(SHORTS, "new", count, read(row, count))
                self.assertEqual(short[:4], ("new", count, read(row, count), expected))

    def test_no_place_where_none_is_counted(self):
        self.assertEqual(new_short([], "new", 0, read("x $1")), ("new", 0, read("x $1"), [2], 0))

    def test_rows_whose_sum_is_400_and_401(self):
        many = told("ten 0 " + "w " * 10, "hundred 0 " + "[ten ] " * 10, "d 1 $1 $1")
        for row, count, expected in (
                ("[hundred ] " * 4, 0, [400]), ("[hundred ] " * 3 + "w " * 99 + "$1", 1, [399, 1]),
                ("$1 " * 200 + "$2 " * 200, 2, [0, 200, 200]), ("[d [d [hundred ] ] ]", 0, [400]),
                ("[d [d [d [d " + "$1 " * 25 + "] ] ] ]", 1, [0, 400])):
            with self.subTest(row):
                self.assertEqual(new_short(many, "new", count, read(row, count))[3], expected)
                check_refused(self, TooLong, new_short, many, "new", count, read(row + " w", count))
        for row, count in (("$1 " * 401, 1), ("[d [d [d [d [d " + "$1 " * 13 + "] ] ] ] ]", 1),
                           ("[hundred ] [hundred ] [hundred ] [hundred ] $1", 1)):
            check_refused(self, TooLong, new_short, many, "new", count, read(row, count))

    def test_60_and_61_calls(self):
        calls = told("e 0", "i 1 $1", "ten 0 " + "[e ] " * 10, "more 1 [i [i $1 ] ] [i x ]")
        self.assertEqual([short[4] for short in calls], [0, 0, 10, 3])
        for row, number in (("[e ] " * 60, 60), ("[ten ] " * 5 + "[e ] " * 5, 60), ("[more [more [i [ten ] ] ] ]", 20)):
            with self.subTest(row):
                short = new_short(calls, "new", 0, read(row))
                self.assertEqual(short[4], number)
                more = read(row + " [e ]" * (60 - number))
                self.assertEqual(new_short(calls, "new", 0, more)[4], 60)
                check_refused(self, TooLong, new_short, calls, "new", 0, more + read("[e ]"))
        deep = wrapped("i", 60, read("$1", 1))
        self.assertEqual(new_short(calls, "new", 1, deep), ("new", 1, deep, [0, 1], 60))
        check_refused(self, TooLong, new_short, calls, "new", 1, wrapped("i", 61, read("$1", 1)))

    def test_calls_of_an_argument_count_once(self):
        short = new_short(told("e 0", "five 1 $1 $1 $1 $1 $1"), "new", 0, read("[five [e ] [e ] ]"))
        self.assertEqual(short, ("new", 0, read("[five [e ] [e ] ]"), [0], 3))

    def test_the_order_of_refusals(self):
        long = " x" * 401
        check_refused(self, NoShort, new_short, SHORTS, "new", 1, read("[none ]" + long))
        check_refused(self, NoShort, new_short, SHORTS, "new", 0, read("[none ]" + long))
        check_refused(self, BadCall, new_short, SHORTS, "new", 1, read("[same ]" + long))
        check_refused(self, BadCall, new_short, SHORTS, "new", 0, read(long + " [same ]"))
        check_refused(self, BadCall, new_short, SHORTS, "new", 1, read(long))
        check_refused(self, BadCall, new_short, SHORTS, "new", 1, read("[e ] " * 61))
        check_refused(self, NoShort, new_short, SHORTS, "new", 1, read(long + " [none ] [same ]"))
        check_refused(self, BadCall, new_short, SHORTS, "new", 1, read(long + " [same ] [none ]"))

    def test_no_short_calls_itself_or_one_told_later(self):
        check_refused(self, NoShort, new_short, [], "new", 0, read("[new ]"))
        check_refused(self, NoShort, new_short, SHORTS[:3], "new", 1, read("[dup $1 ]", 1))


class Sizes(unittest.TestCase):
    def test_words_and_places(self):
        self.assertEqual(size_of([], []), ([0], 0))
        self.assertEqual(size_of([], read("x y z")), ([3], 0))
        self.assertEqual(size_of([], read("x $1 $2 y $1", 3), 3), ([2, 2, 1, 0], 0))

    def test_without_a_count_it_is_0(self):
        self.assertEqual(size_of(SHORTS, read("x [two ]")), ([3], 1))
        self.assertEqual(size_of(SHORTS, read("x [two ]"), 0), ([3], 1))
        self.assertEqual(size_of(SHORTS, read("x [two ]"), 4), ([3, 0, 0, 0, 0], 1))

    def test_the_pair_is_a_tuple_with_a_list(self):
        pair = size_of(SHORTS, read("x"))
        self.assertEqual((type(pair), type(pair[0]), type(pair[1])), (tuple, list, int))

    def test_calls(self):
        for row, expected in (
                ("[e ]", ([0], 1)), ("[two ] [two ]", ([4], 2)), ("[same [two ] ]", ([2], 2)),
                ("[dup [dup x ] ]", ([4], 2)), ("[dup [e ] ]", ([0], 2)), ("[swap x | [dup y z ] ]", ([5], 2)),
                ("[mix | ]", ([4], 3)), ("[mix [two ] | [call ] x ]", ([4 + 4 + 22], 3 + 1 + 5)),
                ("[call ]", ([10], 5))):
            with self.subTest(row):
                self.assertEqual(size_of(SHORTS, read(row)), expected)

    def test_places_within_arguments(self):
        row = "$1 [dup [dup $2 x ] $1 ] [three $3 | $1 | y ]"
        self.assertEqual(size_of(SHORTS, read(row, 3), 3), ([4 + 1, 1 + 2 + 2, 4, 2], 2 + 3))

    def test_sizes_far_beyond_what_could_be_put_out(self):
        shorts = told("x 1 " + "$1 " * 400, "y 1 " + "$1 " * 399 + "z")
        self.assertEqual(size_of(shorts, wrapped("x", 20, read("a"))), ([400 ** 20], 20))
        self.assertEqual(size_of(shorts, wrapped("x", 60, read("a b"))), ([2 * 400 ** 60], 60))
        self.assertEqual(size_of(shorts, wrapped("x", 60, read("$2 a $2", 2)), 2), ([400 ** 60, 0, 2 * 400 ** 60], 60))
        expected = 0
        for level in range(60):
            expected = 399 * expected + 1
        self.assertEqual(size_of(shorts, wrapped("y", 60, [])), ([expected], 60))

    def test_nodes_in_more_than_60_calls(self):
        self.assertEqual(size_of(SHORTS, wrapped("same", 80, read("[mix a | b ]"))), ([8], 83))

    def test_calls_far_beyond(self):
        shorts = told("e 0", "t 0 " + "[e ] " * 59)
        nodes = read("[t ] " * 1000)
        self.assertEqual(size_of(shorts, nodes), ([0], 60000))

    def test_a_name_that_no_short_has(self):
        for row in ("[none ]", "x [none a ]", "[dup [none ] ]", "[swap x | [none ] ]", "[none x | y ]",
                    "[two ] [none ]"):
            with self.subTest(row):
                check_refused(self, NoShort, size_of, SHORTS, read(row))
                check_refused(self, NoShort, put_out, SHORTS, read(row))
        check_refused(self, NoShort, size_of, [], read("[two ]"))

    def test_too_many_and_too_few_arguments(self):
        for row in ("[e x ]", "[e | ]", "[two x ]", "[dup ]", "[dup x | y ]", "[swap x ]", "[swap ]", "[swap | | ]",
                    "[dup [dup ] ]", "[swap x | [e x ] ]", "[nine a | b | c | d | e | f | g | h ]"):
            with self.subTest(row):
                check_refused(self, BadCall, size_of, SHORTS, read(row))
                check_refused(self, BadCall, put_out, SHORTS, read(row))

    def test_what_is_met_first_is_refused(self):
        for refusal, row in (
                (NoShort, "[none ] [dup ]"), (BadCall, "[dup ] [none ]"), (NoShort, "[none [dup ] ]"),
                (BadCall, "[e [none ] ]"), (NoShort, "[swap [none ] | [dup ] ]"), (BadCall, "[swap [dup ] | [none ] ]"),
                (NoShort, "[same [same [none ] ] ] [dup ]"), (BadCall, "[same [same [dup ] ] ] [none ]"),
                (BadCall, "[swap [none ] ]"), (NoShort, "[none [e x ] | [dup ] ]")):
            with self.subTest(row):
                check_refused(self, refusal, size_of, SHORTS, read(row))
                check_refused(self, refusal, size_of, SHORTS, read(row), 3)
                check_refused(self, refusal, new_short, SHORTS, "new", 0, read(row))
                check_refused(self, refusal, put_out, SHORTS, read(row))


class PutOut(unittest.TestCase):
    def test_words(self):
        self.assertEqual(put_out([], []), [])
        self.assertEqual(put_out([], read("x y ] |")), ["x", "y", "]", "|"])
        self.assertEqual(put_out(SHORTS, read("$1 x")), ["$1", "x"])

    def test_calls(self):
        for row, expected in (
                ("[e ]", ""), ("x [e ] y", "x y"), ("[two ] [two ]", "u v u v"), ("[same x y ]", "x y"),
                ("[dup x y ]", "x y x y"), ("[dup [e ] ]", ""), ("[swap x | y z ]", "y z x"),
                ("[swap | y ]", "y"), ("[swap x | ]", "x"), ("[swap | ]", ""), ("[dup [dup x ] y ]", "x x y x x y"),
                ("[swap [two ] | [swap a | b ] ]", "b a u v"), ("[mix x | y ]", "a x y b y b c x"),
                ("[call ]", "a x u v b u v b c x"), ("[three x | y | z ]", "y z x x y"),
                ("[nine a | b | c | d | e | f | g | h | i ]", "i h g f e d c b a")):
            with self.subTest(row):
                self.assertEqual(words_of(SHORTS, row), expected)

    def test_what_is_put_in_is_not_read_again(self):
        shorts = told("b 0 [A", "d 1 $1 $x", "c 1 [d $1 ]")
        self.assertEqual(words_of(shorts, "[c $1 $2 [b ] ]"), "$1 $2 [A $x")
        self.assertEqual(put_out(shorts, [("call", "c", [[("word", "]"), ("word", "[b")]])]), ["]", "[b", "$x"])

    def test_400_and_401_words(self):
        shorts = told("d 1 $1 $1", "h 0 " + "w " * 100, "e 0")
        for row in ("x " * 400, "[h ] " * 4, "[d [d [h ] ] ]", "[d [d [d [d " + "x " * 25 + "] ] ] ]"):
            with self.subTest(row):
                self.assertEqual(len(put_out(shorts, read(row))), 400)
                self.assertEqual(len(put_out(shorts, read(row + " [e ]"))), 400)
                check_refused(self, TooLong, put_out, shorts, read(row + " x"))
                check_refused(self, TooLong, put_out, shorts, read("x " + row))
        check_refused(self, TooLong, put_out, shorts, read("[d [d [d [d [d [d [d [d [d x ] ] ] ] ] ] ] ] ]"))

    def test_400_and_401_calls(self):
        shorts = told("e 0", "i 1 $1", "fifty 0 " + "[e ] " * 49, "d 1 $1 $1")
        for row in ("[e ] " * 400, "[fifty ] " * 8, "[d [fifty ] ] " * 7 + "[i [e ] ] " * 21 + "[e ]"):
            with self.subTest(row):
                self.assertEqual(size_of(shorts, read(row)), ([0], 400))
                self.assertEqual(put_out(shorts, read(row)), [])
                self.assertEqual(put_out(shorts, read(row + " x")), ["x"])
                check_refused(self, TooLong, put_out, shorts, read(row + " [e ]"))

    def test_far_too_much(self):
        shorts = told("x 1 " + "$1 " * 400)
        check_refused(self, TooLong, put_out, shorts, wrapped("x", 60, read("a")))
        shorts = told("e 0", "d 1 $1 $1")
        self.assertEqual(put_out(shorts, wrapped("d", 60, [])), [])
        self.assertEqual(put_out(shorts, wrapped("d", 60, read("[e ]"))), [])

    def test_a_call_that_does_not_fit_together_with_too_many_words(self):
        many = "x " * 401
        for refusal, row in ((NoShort, "[none ]"), (BadCall, "[dup ]"), (BadCall, "[e x ]")):
            check_refused(self, refusal, put_out, SHORTS, read(many + row))
            check_refused(self, refusal, put_out, SHORTS, read(row + " " + many))
            check_refused(self, refusal, put_out, SHORTS, read("[e ] " * 401 + row))

    def test_as_deep_as_it_may_be(self):
        rows = ["s0 0 x"] + [f"s{k} 0 [s{k - 1} ]" for k in range(1, 61)] + ["i 1 $1"]
        rows += ["j1 1 [i $1 ]"] + [f"j{k} 1 [j{k - 1} [i $1 ] ]" for k in range(2, 21)]
        shorts = told(*rows)
        self.assertEqual(shorts[60][3:], ([1], 60))
        self.assertEqual(put_out(shorts, wrapped("i", 60, read("[s60 ]"))), ["x"])
        self.assertEqual(put_out(shorts, wrapped("i", 90, read("[s60 ] y"))), ["x", "y"])
        self.assertEqual(put_out(shorts, wrapped("j20", 9, read("[s20 ]"))), ["x"])
        nodes = wrapped("i", 60, read("[s60 ]"))
        self.assertEqual(one_step(shorts, nodes, 0), wrapped("i", 59, read("[s60 ]")))
        self.assertEqual(one_step(shorts, nodes, 60), wrapped("i", 60, read("[s59 ]")))


class Steps(unittest.TestCase):
    def step(self, row, at, expected):
        nodes = one_step(SHORTS, read(row), at)
        self.assertEqual(" ".join(written(nodes)), expected)
        self.assertEqual(nodes, read(expected))

    def test_calls_without_arguments(self):
        self.step("[e ]", 0, "")
        self.step("x [e ] y", 0, "x y")
        self.step("[two ] x", 0, "u v x")
        self.step("[call ]", 0, "[mix x | [two ] ]")

    def test_each_of_several_calls(self):
        self.step("[two ] a [two ] b [e ]", 0, "u v a [two ] b [e ]")
        self.step("[two ] a [two ] b [e ]", 1, "[two ] a u v b [e ]")
        self.step("[two ] a [two ] b [e ]", 2, "[two ] a [two ] b")

    def test_an_argument_is_put_in_as_it_stands(self):
        self.step("[dup x [two ] ]", 0, "x [two ] x [two ]")
        self.step("[swap [dup x ] | y ]", 0, "y [dup x ]")
        self.step("[mix [two ] | y ]", 0, "a [two ] [dup y b ] [swap [two ] | c ]")
        self.step("[three x | [e ] | z ]", 0, "[swap [dup x ] | [e ] z ] [e ]")

    def test_within_an_argument(self):
        self.step("[dup x [two ] ]", 1, "[dup x u v ]")
        self.step("[swap [dup x ] | [two ] ] [e ]", 0, "[two ] [dup x ] [e ]")
        self.step("[swap [dup x ] | [two ] ] [e ]", 1, "[swap x x | [two ] ] [e ]")
        self.step("[swap [dup x ] | [two ] ] [e ]", 2, "[swap [dup x ] | u v ] [e ]")
        self.step("[swap [dup x ] | [two ] ] [e ]", 3, "[swap [dup x ] | [two ] ]")
        self.step("a [same [same [same [two ] ] ] ] [two ]", 3, "a [same [same [same u v ] ] ] [two ]")
        self.step("a [same [same [same [two ] ] ] ] [two ]", 4, "a [same [same [same [two ] ] ] ] u v")

    def test_within_an_argument_that_is_put_in_several_times(self):
        self.step("[dup x [two ] ]", 0, "x [two ] x [two ]")
        self.step("x [two ] x [two ]", 0, "x u v x [two ]")
        self.step("x [two ] x [two ]", 1, "x [two ] x u v")

    def test_nodes_with_places_keep_them(self):
        nodes = read("$1 [dup $2 [two ] ] [same $1 ]", 2)
        self.assertEqual(written(one_step(SHORTS, nodes, 0)), "$1 $2 [two ] $2 [two ] [same $1 ]".split())
        self.assertEqual(written(one_step(SHORTS, nodes, 1)), "$1 [dup $2 u v ] [same $1 ]".split())
        self.assertEqual(written(one_step(SHORTS, nodes, 2)), "$1 [dup $2 [two ] ] $1".split())

    def test_several_orders_come_to_the_words_put_out(self):
        for row in ("[call ] [call ]", "[mix [dup [two ] ] | [swap x | [call ] ] ]", "[dup [dup [dup [two ] ] ] ]",
                    "[three [two ] | [dup [e ] ] | [mix a | b ] ]", "x [e ] y", "no call"):
            expected = put_out(SHORTS, read(row))
            for order in ("first", "last", "middle", 1, 2, 3):
                with self.subTest(row=row, order=order):
                    self.assertEqual(steps_to_the_end(SHORTS, read(row), order), expected)


def number_of_calls(nodes):
    return sum(1 for word in written(nodes) if word.startswith("["))


def steps_to_the_end(shorts, nodes, order):
    chance = random.Random(order)
    while number_of_calls(nodes):
        last = number_of_calls(nodes) - 1
        at = {"first": 0, "last": last, "middle": last // 2}.get(order, chance.randint(0, last))
        nodes = one_step(shorts, nodes, at)
    return written(nodes)


def some_nodes(chance, shorts, count, most, deep):
    nodes = []
    for each in range(chance.randint(0, most)):
        kind = chance.choice(("word", "place", "call", "call"))
        if kind == "place" and count:
            nodes.append(("place", chance.randint(1, count)))
        elif kind == "call" and shorts and deep:
            short = chance.choice(shorts)
            arguments = [some_nodes(chance, shorts, count, most - 1, deep - 1) for k in range(short[1])]
            nodes.append(("call", short[0], arguments))
        else:
            nodes.append(("word", chance.choice("abc")))
    return nodes


def some_shorts(chance):
    shorts = []
    for k in range(chance.randint(1, 5)):
        count = chance.randint(0, 2)
        nodes = some_nodes(chance, shorts, count, 3, 2) + [("place", k + 1) for k in range(count)]
        chance.shuffle(nodes)
        try:
            shorts.append(new_short(shorts, f"s{k}", count, nodes))
        except TooLong:
            continue
    return shorts


def written_out(shorts, nodes, arguments):
    """A second way to put out, with places: what is told are nodes without calls, and how many calls were made."""
    flat = []
    calls = 0
    for node in nodes:
        if node[0] == "place" and arguments is not None:
            flat.extend(arguments[node[1] - 1])
        elif node[0] != "call":
            flat.append(node)
        else:
            short, = [short for short in shorts if short[0] == node[1]]
            given = [written_out(shorts, argument, arguments) for argument in node[2]]
            inner = written_out(shorts, short[2], [one[0] for one in given])
            flat.extend(inner[0])
            calls += 1 + inner[1] + sum(one[1] for one in given)
    return flat, calls


class ManyShorts(unittest.TestCase):
    """Shorts and nodes by a chance that is the same each time, against what is put out in a second way."""

    def test_sizes_words_and_steps(self):
        for seed in range(400):
            chance = random.Random(seed)
            shorts = some_shorts(chance)
            for short in shorts:
                flat, calls = written_out(shorts, short[2], None)
                row = [sum(1 for node in flat if node[0] == "word")]
                row += [flat.count(("place", k)) for k in range(1, short[1] + 1)]
                self.assertEqual(short[3:], (row, calls), seed)
            nodes = some_nodes(chance, shorts, 0, 3, 3)
            flat, calls = written_out(shorts, nodes, [])
            self.assertEqual(size_of(shorts, nodes), ([len(flat)], calls), seed)
            if len(flat) <= 100 and calls <= 100:
                words = put_out(shorts, nodes)
                self.assertEqual(words, written(flat), seed)
                for order in ("first", "last", 5):
                    self.assertEqual(steps_to_the_end(shorts, nodes, order), words, (seed, order))


class Own(unittest.TestCase):
    ROWS = (
        "", "x", "[e ]", "[two ]", "[dup x [swap [two ] | y ] ]", "[mix [dup a ] | [swap b | [e ] ] ]",
        "[call ] [call ]")

    def test_what_is_told_is_the_askers_own(self):
        for row in self.ROWS:
            with self.subTest(row):
                check_own(self, size_of, SHORTS, read(row))
                check_own(self, size_of, SHORTS, read(row), 2)
                check_own(self, new_short, SHORTS, "new", 0, read(row))
                check_own(self, put_out, SHORTS, read(row))
                for at in range(row.count("[")):
                    check_own(self, one_step, SHORTS, read(row), at)

    def test_an_argument_put_in_several_times(self):
        shorts = told("i 1 $1", "dup 1 $1 [i $1 ] $1")
        nodes = read("[dup [i x ] [i [i y ] ] ]")
        told_nodes = check_own(self, one_step, shorts, nodes, 0)
        argument = "[i x ] [i [i y ] ]"
        self.assertEqual(" ".join(written(told_nodes)), f"{argument} [i {argument} ] {argument}")

    def test_nodes_that_hold_one_list_twice(self):
        argument = read("[dup x ] [two ]")
        nodes = [("call", "swap", [argument, argument]), ("call", "same", [argument])]
        for at in range(8):
            check_own(self, one_step, SHORTS, nodes, at)
        short = check_own(self, new_short, SHORTS, "new", 0, nodes)
        self.assertEqual(short[2], nodes)
        check_own(self, put_out, SHORTS, nodes)

    def test_changing_the_nodes_handed_in_changes_no_short(self):
        nodes = read("[dup [two ] x ]")
        short = new_short(SHORTS, "new", 0, nodes)
        scribble(nodes)
        self.assertEqual(short[2], read("[dup [two ] x ]"))

    def test_changing_a_short_changes_nothing_told_of_it(self):
        shorts = told("i 1 $1", "b 0 [i [i x ] ]")
        nodes = one_step(shorts, read("[b ]"), 0)
        scribble(shorts[1][2])
        self.assertEqual(nodes, read("[i [i x ] ]"))


if __name__ == "__main__":
    unittest.main()
