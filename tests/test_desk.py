import random

from onceways.desk import Desk
from onceways.errors import NoEnds, NoName, NoNumber, NoRow, NoTable, NoText, NoWay, NoWeb, TooMany
from onceways.texts import show_web, show_wish
from onceways.webs import grid, reordered
from onceways.wishes import wish_table
from tests.support import THINGS, Case, all_pairs

KITE = "4 0-1 1-2 2-3 0-2"
GREAT = "10 " + " ".join(f"{a}-{b}" for a, b in all_pairs(8)) + " 8-9"
ROWS_WITH_A_NAME = ("drop", "count", "lengths", "nodes", "text", "number", "has", "least")


def desk_with(*rows):
    desk = Desk()
    for row in rows:
        assert desk.say(row) == "ok", row
    return desk


def told_of(desk):
    """All that a desk keeps, as far as it can be asked."""
    kept = {name: (desk.say("text " + name), desk.say("count " + name), desk.say("nodes " + name))
            for name in desk.names()}
    return (desk.web_now(), desk.names(), desk.say("web"), desk.say("names"), kept)


class DeskCase(Case):
    def says(self, desk, row, answer):
        told = desk.say(row)
        self.assertEqual(told, answer)
        self.assertIsInstance(told, str)

    def refuses_row(self, refusal, desk, row):
        before = told_of(desk)
        self.refuses(refusal, desk.say, row)
        self.assertEqual(told_of(desk), before)


class RowsTest(DeskCase):
    def test_a_new_desk(self):
        desk = Desk()
        self.assertEqual(desk.web_now(), (1, []))
        self.assertEqual(desk.names(), [])
        self.says(desk, "web", "1")
        self.says(desk, "names", "none")

    def test_web(self):
        desk = desk_with("web " + KITE)
        self.assertEqual(desk.web_now(), (4, [(0, 1), (1, 2), (2, 3), (0, 2)]))
        self.says(desk, "web", KITE)
        self.says(desk, "web 3", "ok")
        self.says(desk, "web", "3")
        self.assertEqual(desk.web_now(), (3, []))

    def test_grid(self):
        for rows, columns in ((1, 1), (1, 16), (16, 1), (4, 4), (2, 8), (3, 5)):
            desk = desk_with(f"grid {rows} {columns}")
            self.assertEqual(desk.web_now(), grid(rows, columns))
            self.says(desk, "web", show_web(grid(rows, columns)))
        desk = desk_with("web " + KITE, "wish a closed")
        for rows, columns in ((1, 17), (17, 1), (4, 5), (9999, 9999), (2, 9), (0, 3), (3, 0), (0, 0), (0, 9999),
                              (9999, 0)):
            self.refuses_row(NoWeb, desk, f"grid {rows} {columns}")

    def test_names_are_forgotten(self):
        for row in ("web 5 0-1", "web " + KITE, "grid 2 2", "grid 1 1", "web 1"):
            desk = desk_with("web " + KITE, "wish a closed", "wish b open 0 3")
            self.says(desk, "names", "a b")
            self.says(desk, row, "ok")
            self.assertEqual(desk.names(), [])
            self.says(desk, "names", "none")
            self.refuses_row(NoName, desk, "count a")
        desk = desk_with("grid 2 2", "wish a closed", "grid 2 2")
        self.assertEqual(desk.names(), [])

    def test_wish_drop_and_names(self):
        desk = desk_with("grid 2 3", "wish zeta closed", "wish a open 0 5", "wish abcdefgh (closed but shy)",
                         "wish b closed")
        self.assertEqual(desk.names(), ["a", "abcdefgh", "b", "zeta"])
        self.says(desk, "names", "a abcdefgh b zeta")
        self.says(desk, "drop b", "ok")
        self.says(desk, "names", "a abcdefgh zeta")
        self.refuses_row(NoName, desk, "drop b")
        self.refuses_row(NoName, desk, "count b")
        self.says(desk, "wish b closed", "ok")
        self.says(desk, "names", "a abcdefgh b zeta")

    def test_a_wish_in_the_place_of_another(self):
        desk = desk_with("web " + KITE, "wish a open 0 3")
        self.says(desk, "count a", "2")
        self.says(desk, "wish a closed", "ok")
        self.says(desk, "count a", "1")
        self.says(desk, "text a", "closed")
        self.assertEqual(desk.names(), ["a"])
        for text, refusal in (("open 0 0", NoEnds), ("with 4", NoWay), ("shy", NoTable), ("shut", NoText)):
            self.refuses_row(refusal, desk, "wish a " + text)
        self.says(desk, "text a", "closed")

    def test_count_and_nodes(self):
        desk = desk_with("web " + KITE, "wish a open 0 3", "wish b closed", "wish c (open 0 3 and closed)")
        for name, many, nodes in (("a", "2", "5"), ("b", "1", "3"), ("c", "0", "0")):
            self.says(desk, "count " + name, many)
            self.says(desk, "nodes " + name, nodes)

    def test_lengths(self):
        desk = desk_with("web " + KITE, "wish a open 0 3", "wish b closed", "wish c (open 0 3 and closed)",
                         "wish d (open 0 1 or open 0 3)")
        self.says(desk, "lengths a", "0 0 1 1")
        self.says(desk, "lengths b", "0 0 0 1")
        self.says(desk, "lengths c", "none")
        self.says(desk, "lengths d", "0 1 2 1")

    def test_set_and_way(self):
        desk = desk_with("web " + KITE, "wish a open 3 0", "wish b (closed or open 1 2)")
        for number, roads, places in ((0, "0 1 2", "0 1 2 3"), (1, "2 3", "0 2 3")):
            self.says(desk, f"set a {number}", roads)
            self.says(desk, f"way a {number}", places)
        for number, roads, places in ((0, "0 1 3", "0 1 2"), (1, "0 3", "1 0 2"), (2, "1", "1 2")):
            self.says(desk, f"set b {number}", roads)
            self.says(desk, f"way b {number}", places)
        for number in (2, 3, 9999):
            self.refuses_row(NoNumber, desk, f"set a {number}")
            self.refuses_row(NoNumber, desk, f"way a {number}")

    def test_way_from_the_lesser_end(self):
        desk = desk_with("web 5 2-3 1-2 1-4 0-4", "wish a open 3 0", "wish b open 4 2")
        self.says(desk, "way a 0", "0 4 1 2 3")
        self.says(desk, "way b 0", "2 1 4")
        desk = desk_with("web 5 2-4 1-2 1-4 0-1", "wish c closed")
        self.says(desk, "way c 0", "1 2 4")

    def test_number(self):
        desk = desk_with("web " + KITE, "wish a open 0 3", "wish c (open 0 3 and closed)")
        self.says(desk, "number a 0 1 2", "0")
        self.says(desk, "number a 2 3", "1")
        for roads in ("", " 0", " 3 2", " 2 3 3", " 2 3 4", " 9999", " 0 1 3"):
            self.refuses_row(NoWay, desk, "number a" + roads)
            self.refuses_row(NoWay, desk, "number c" + roads)

    def test_has(self):
        desk = desk_with("web " + KITE, "wish a open 0 3", "wish c (open 0 3 and closed)")
        self.says(desk, "has a 0 1 2", "yes")
        self.says(desk, "has a 2 3", "yes")
        for roads in ("", " 0", " 3 2", " 2 3 3", " 2 3 4", " 9999", " 0 1 3"):
            self.says(desk, "has a" + roads, "no")
            self.says(desk, "has c" + roads, "no")

    def test_alike(self):
        desk = desk_with("web " + KITE, "wish a open 0 3", "wish b (open 3 0 but closed)", "wish c closed",
                         "wish d (open 0 3 and closed)", "wish e (closed and long 4 4)")
        for one, other, answer in (("a", "b", "yes"), ("b", "a", "yes"), ("a", "a", "yes"), ("a", "c", "no"),
                                   ("d", "e", "yes"), ("d", "a", "no")):
            self.says(desk, f"alike {one} {other}", answer)

    def test_least(self):
        desk = desk_with("web " + KITE, "wish a open 0 3", "wish c (open 0 3 and closed)")
        self.says(desk, "least a 1 1 1 1", "2 2 3")
        self.says(desk, "least a 1 1 1 2", "3 0 1 2")
        self.says(desk, "least a -5 0 3 2", "-2 0 1 2")
        great = "9" * 30
        self.says(desk, f"least a {great} 0 0 -{great}", f"-{great} 2 3")
        self.says(desk, f"least a {great} {great} {great} {great}", f"{2 * int(great)} 2 3")
        self.says(desk, "least c 1 1 1 1", "none")
        for prices in ("", " 1", " 1 1 1", " 1 1 1 1 1"):
            self.refuses_row(NoNumber, desk, "least a" + prices)
            self.refuses_row(NoNumber, desk, "least c" + prices)

    def test_least_of_a_web_without_roads(self):
        desk = desk_with("web 2", "wish a open 0 1")
        self.says(desk, "least a", "none")
        self.says(desk, "lengths a", "none")
        self.refuses_row(NoNumber, desk, "least a 1")

    def test_text_and_web(self):
        desk = desk_with("grid 2 3", "wish a ((closed but with 1) or (open 0 5 and shy))", "wish b (closed and over)")
        self.says(desk, "text a", "((closed but with 1) or (open 0 5 and shy))")
        self.says(desk, "text b", "(closed and over)")
        self.says(desk, "web", "6 0-1 0-3 1-2 1-4 2-5 3-4 4-5")

    def test_two_desks_side_by_side(self):
        one, other = desk_with("web " + KITE, "wish a closed"), desk_with("grid 2 2", "wish b open 0 3")
        self.says(one, "names", "a")
        self.says(other, "names", "b")
        self.says(one, "wish b open 0 3", "ok")
        self.says(other, "count b", "2")
        self.says(other, "drop b", "ok")
        self.says(one, "count b", "2")
        self.says(other, "web 1", "ok")
        self.says(one, "web", KITE)
        self.assertEqual(one.names(), ["a", "b"])

    def test_what_is_told_is_the_asker_s_own(self):
        desk = desk_with("web " + KITE, "wish a closed", "wish b closed")
        desk.web_now()[1].append((1, 3))
        desk.names().append("c")
        desk.names().clear()
        self.assertEqual(desk.web_now(), (4, [(0, 1), (1, 2), (2, 3), (0, 2)]))
        self.assertEqual(desk.names(), ["a", "b"])
        told, names = desk.web_now(), desk.names()
        desk.say("web 1")
        self.assertEqual((told, names), ((4, [(0, 1), (1, 2), (2, 3), (0, 2)]), ["a", "b"]))
        self.says(Desk(), "web", "1")
        Desk().web_now()[1].append((0, 1))
        self.says(Desk(), "web", "1")


class WordsRowTest(DeskCase):
    def test_a_grid(self):
        desk = desk_with("grid 3 3", "wish a closed")
        self.says(desk, "words 1", "().:1 (.):1 .():1")
        self.says(desk, "words 2", "().:3 (.):4 .():3")
        self.says(desk_with("grid 2 2"), "words 1", "():1")
        self.says(desk_with("web 4 0-1 0-2 1-3 2-3"), "words 1", "():1")
        for row in (0, 3, 4, 9999):
            self.refuses_row(NoWeb, desk, f"words {row}")

    def test_grids_of_all_forms(self):
        self.says(desk_with("grid 2 3"), "words 1", "().:1 (.):1 .():1")
        desk = desk_with("grid 3 2")
        self.says(desk, "words 1", "():1")
        self.says(desk, "words 2", "():2")
        self.refuses_row(NoWeb, desk, "words 3")
        desk = desk_with("grid 8 2")
        self.says(desk, "words 7", "():7")
        self.refuses_row(NoWeb, desk, "words 8")

    def test_a_web_that_could_be_two(self):
        for row in ("grid 1 5", "grid 5 1", "web 5 0-1 1-2 2-3 3-4", "grid 1 1", "web 1", "grid 2 1", "grid 16 1"):
            desk = desk_with(row)
            for below in range(6):
                self.refuses_row(NoWeb, desk, f"words {below}")

    def test_webs_that_are_no_grid(self):
        for text in (KITE, "4 0-1 0-2 1-3", "4 0-1 0-2 1-3 2-3 0-3", "2", "6 0-1 1-2 3-4 4-5 0-3 1-4",
                     "4 0-1 1-2 2-3 0-3"):
            desk = desk_with("web " + text)
            for below in (0, 1, 2):
                self.refuses_row(NoWeb, desk, f"words {below}")

    def test_a_grid_with_its_roads_in_another_order(self):
        source = random.Random(191)
        for rows, columns in ((2, 2), (2, 3), (3, 3)):
            web = grid(rows, columns)
            for nothing in range(5):
                order = source.sample(range(len(web[1])), len(web[1]))
                if order != sorted(order):
                    self.refuses_row(NoWeb, desk_with("web " + show_web(reordered(web, order))), "words 1")


class NoRowTest(DeskCase):
    def setUp(self):
        self.desk = desk_with("web " + KITE, "wish a open 0 3", "wish b closed")

    def none(self, *rows):
        for row in rows:
            self.refuses_row(NoRow, self.desk, row)

    def test_things_of_any_kind(self):
        self.none(*THINGS)
        self.none(b"web", ["web"], ("count", "a"), {"web": "1"}, ["count", "a"])

    def test_other_words(self):
        self.none("", " ", "  ", "Web", "WEB", "webs", "we", "name", "Names", "count_a", "counts a", "help",
                  "open 0 3", "(",
                  "closed", "a", "b", "1", "say web", "web\t1", "names\n", "\nnames", " names", "names ", " web",
                  "count\ta",
                  "TEXT", "sets a 0")

    def test_a_word_too_many_or_too_few(self):
        for word in ROWS_WITH_A_NAME:
            self.none(word, word + " ")
        for word in ("drop", "count", "lengths", "nodes", "text"):
            self.none(f"{word} a b", f"{word} a 0", f"{word} a ", f"{word} 0")
        for word in ("set", "way"):
            self.none(word, f"{word} a", f"{word} a ", f"{word} a 0 0", f"{word} 0", f"{word} 0 a", f"{word} a b",
                      f"{word} a 0 ")
        self.none("alike", "alike a", "alike a b a", "alike a ", "alike a 0", "alike a b ", "alike  a b", "grid",
                  "grid 2",
                  "grid 2 2 2", "grid 2 2 ", "grid ", "grid a b", "grid 2,2", "grid 2x2", "words", "words ",
                  "words 1 1",
                  "words a", "words 1 ", "names a", "names 0", "wish", "wish a", "wish ", "drop")

    def test_two_blanks(self):
        self.none("count  a", "set a  0", "set  a 0", "alike a  b", "grid 2  2", "grid  2 2", "words  1",
                  "wish  a closed",
                  "wish  closed", "number a  0", "has a 0  1", "least a 1  1 1 1", "drop  a", "names  ", "text  a")

    def test_numbers(self):
        for number in ("10000", "00", "01", "007", "-1", "-0", "+1", "1.0", "x", "\u0661", "\u00b2", "12345", "1_0",
                       "1\n", ""):
            self.none(f"set a {number}", f"way a {number}", f"number a {number}", f"number a 0 {number}",
                      f"has a {number}",
                      f"has a {number} 1", f"grid {number} 2", f"grid 2 {number}", f"words {number}")
        self.says(self.desk, "set a 0", "0 1 2")
        self.refuses_row(NoNumber, self.desk, "set a 9999")
        self.refuses_row(NoWay, self.desk, "number a 0")
        self.refuses_row(NoWay, self.desk, "number a 9999")

    def test_prices(self):
        for price in ("-0", "00", "01", "-01", "-00", "+1", "--1", "-", "1-", "1.5", "x", "9" * 31, "-" + "9" * 31,
                      "1" + "0" * 30,
                      "\u0661", "-\u0661", "- 1", "", "1e3", "0x1", "-1\n"):
            self.none(f"least a {price}", f"least a {price} 1 1 1", f"least a 1 1 1 {price}",
                      f"least a 1 1 1 1 {price}")
        for price in ("0", "-1", "9" * 30, "-" + "9" * 30, "10000", "1" + "0" * 29, "123456"):
            self.says(self.desk, f"least b 0 0 5 {price}", f"{int(price)} 0 1 3")

    def test_names(self):
        for name in ("abcdefghi", "A", "aB", "Abc", "a1", "1a", "1", "a_b", "a-b", "", "\u00e4", "a\u00e9", "\u0430",
                     "a\n", "a.",
                     "(a)", "a,b", "\u00df", "-"):
            self.none(f"wish {name} closed", f"wish {name} ", f"set {name} 0", f"way {name} 0", f"alike {name} a",
                      f"alike a {name}")
            for word in ROWS_WITH_A_NAME:
                self.none(f"{word} {name}")

    def test_nothing_behind_the_name(self):
        self.says(self.desk, "has a", "no")
        self.refuses_row(NoWay, self.desk, "number a")
        self.refuses_row(NoNumber, self.desk, "least a")

    def test_a_row_s_own_words_as_names(self):
        for word in ("web", "grid", "wish", "drop", "count", "lengths", "set", "way", "number", "alike", "has",
                     "nodes", "least",
                     "words", "names", "text", "ok", "none", "yes", "no", "closed", "and", "z", "abcdefgh"):
            self.says(self.desk, f"wish {word} open 0 3", "ok")
            self.says(self.desk, f"count {word}", "2")
            self.says(self.desk, f"alike {word} a", "yes")
            self.says(self.desk, f"has {word} 2 3", "yes")
            self.says(self.desk, f"set {word} 1", "2 3")
            self.says(self.desk, f"text {word}", "open 0 3")
            self.says(self.desk, f"drop {word}", "ok")
        self.assertEqual(self.desk.names(), ["a", "b"])


class OrderTest(DeskCase):
    """Each refusal goes ahead of the next one where both are due."""

    def setUp(self):
        self.desk = desk_with("web " + KITE, "wish a open 0 3")

    def test_no_row_ahead_of_no_name(self):
        for row in ("count c c", "set c", "set c -1", "set c 10000", "alike c", "number c x", "has c 00", "least c -0",
                    "drop C",
                    "lengths c ", "nodes c 0", "alike a c c", "text c d"):
            self.refuses_row(NoRow, self.desk, row)

    def test_no_row_ahead_of_no_text(self):
        for row in ("wish A shut", "wish a1 ", "wish abcdefghi shut", "wish", "wish ", "wish a", "Web x", "wish  shut",
                    "wish 1 x"):
            self.refuses_row(NoRow, self.desk, row)

    def test_no_row_ahead_of_no_number_and_no_web(self):
        for row in ("least a 1 -0", "least a 01", "set a 99999", "grid 99999 2", "grid 5 05", "words 10000",
                    "words -1", "words"):
            self.refuses_row(NoRow, self.desk, row)

    def test_no_name(self):
        for word in ROWS_WITH_A_NAME:
            self.refuses_row(NoName, self.desk, f"{word} c")
        for row in ("set c 0", "way c 9999", "alike a c", "alike c a", "alike c d", "number c 0 1", "number c 9999",
                    "has c 0",
                    "least c 1 1 1 1", "least c 1"):
            self.refuses_row(NoName, self.desk, row)

    def test_no_name_ahead_of_no_number_and_no_way(self):
        for row in ("least c", "least c 1 1", "set c 9999", "way c 9999", "number c", "number c 1 0"):
            self.refuses_row(NoName, self.desk, row)

    def test_no_text(self):
        for text in ("", " ", "shut", " closed", "closed ", "(closed", "open 0 03", "open 0 10000", "closed\n",
                     "closed\tand"):
            self.refuses_row(NoText, self.desk, "wish a " + text)
            self.refuses_row(NoText, self.desk, "wish c " + text)
        for text in ("", " ", "0", "x", " 3", "3 ", "3 0-1 0-1", "17", "2 0-2", "3  0-1", "TEXT", "2 1-0", "03",
                     "3 0-10000"):
            self.refuses_row(NoText, self.desk, "web " + text)

    def test_no_text_ahead_of_what_the_wish_is_refused_for(self):
        for text in ("open 0 0 0", "(open 0 0 and)", "(with 99 or open 9 9", "shy 1", "(shy or shy) "):
            self.refuses_row(NoText, self.desk, "wish a " + text)

    def test_texts_of_what_is_too_deep(self):
        for word in ("and", "or", "but"):
            for side in (0, 1):
                text = "closed"
                for depth in range(2, 13):
                    text = f"(open 0 3 {word} {text})" if side else f"({text} {word} open 0 3)"
                    if depth <= 8:
                        self.says(self.desk, "wish a " + text, "ok")
                    else:
                        self.refuses_row(NoText, self.desk, "wish a " + text)
                        self.refuses_row(NoText, self.desk, "wish c " + text)
                    if depth == 8:
                        kept = text
                self.says(self.desk, "text a", kept)
                self.assertEqual(self.desk.names(), ["a"])

    def test_no_row_ahead_of_what_is_too_deep(self):
        text = "(" * 8 + "closed" + " or closed)" * 8
        for row in ("wish A " + text, "wish  a " + text, "wish abcdefghi " + text, "wish " + text):
            self.refuses_row(NoRow, self.desk, row)

    def test_what_is_too_deep_ahead_of_what_the_wish_is_refused_for(self):
        for leaf, refusal in (("open 0 0", NoEnds), ("with 9", NoWay), ("shy", NoTable)):
            text = leaf
            for depth in range(2, 11):
                text = f"(shy or {text})"
                self.refuses_row(refusal if depth <= 8 else NoText, self.desk, "wish a " + text)

    def test_wish_as_its_table(self):
        for text, refusal in (("open 0 0", NoEnds), ("open 0 4", NoEnds), ("(with 4 or open 0 0)", NoEnds),
                              ("(shy or open 4 0)", NoEnds), ("with 4", NoWay), ("(closed and over 4)", NoWay),
                              ("(shy or off 9999)", NoWay), ("shy", NoTable), ("(closed or shy)", NoTable),
                              ("with", NoTable), ("(all but closed)", NoTable)):
            self.refuses_row(refusal, self.desk, "wish a " + text)
            self.refuses_row(refusal, self.desk, "wish c " + text)

    def test_too_many(self):
        desk = desk_with("web " + GREAT, "wish a open 8 9")
        for text in ("closed", "(open 8 9 but closed)", "(open 8 9 or closed)", "(closed and long 0 0)"):
            self.refuses_row(TooMany, desk, "wish a " + text)
            self.refuses_row(NoTable, desk, f"wish a ({text} or shy)")
            self.refuses_row(NoWay, desk, f"wish a ({text} or with 29)")
            self.refuses_row(NoEnds, desk, f"wish a ({text} or (open 1 1 or with 29))")
        self.says(desk, "count a", "1")

    def test_no_number_of_prices_ahead_of_none(self):
        desk = desk_with("web " + KITE, "wish a (closed and long 4 4)")
        self.refuses_row(NoNumber, desk, "least a 1 1 1")
        self.says(desk, "least a 1 1 1 1", "none")

    def test_what_is_refused_changes_nothing(self):
        before = told_of(self.desk)
        for row in (None, "web 0", "web", "names", "grid 4 5", "grid 0 1", "wish a shut", "wish c shy", "drop c",
                    "set a 7",
                    "least a", "words 1", "number a 0", "x", "wish a open 0 0", "web " + KITE + " 0-1",
                    "wish a with 9"):
            try:
                self.desk.say(row)
            except ValueError:
                pass
            self.assertEqual(told_of(self.desk), before)


class WishesAtTheDeskTest(DeskCase):
    def test_written_as_shown(self):
        desk = desk_with("grid 2 3")
        for wish in (("closed",), ("open", 0, 5), ("but", ("closed",), ("with", ())),
                     ("and", ("past", (1,)), ("open", 0, 4))):
            self.says(desk, "wish a " + show_wish(wish), "ok")
            self.says(desk, "text a", show_wish(wish))
            self.says(desk, "nodes a", str(len(wish_table(grid(2, 3), wish)[1])))
