import itertools
import random

from onceways.errors import NoText
from onceways.texts import read_web, read_wish, show_web, show_wish
from onceways.webs import grid, web_of
from onceways.wishes import is_wish
from tests.support import THINGS, Case, all_pairs, random_webs, random_wish, ringed_web

WRITTEN = [
    (("open", 0, 1), "open 0 1"),
    (("open", 15, 3), "open 15 3"),
    (("open", 9999, 9999), "open 9999 9999"),
    (("closed",), "closed"),
    (("with", ()), "with"),
    (("with", (0,)), "with 0"),
    (("with", (3, 1, 20)), "with 3 1 20"),
    (("off", ()), "off"),
    (("off", (10,)), "off 10"),
    (("off", (1, 1)), "off 1 1"),
    (("over", ()), "over"),
    (("over", (5,)), "over 5"),
    (("over", (0, 1, 2, 3)), "over 0 1 2 3"),
    (("past", ()), "past"),
    (("past", (7,)), "past 7"),
    (("past", (100, 9999, 0)), "past 100 9999 0"),
    (("long", 0, 5), "long 0 5"),
    (("long", 9, 2), "long 9 2"),
    (("shy",), "shy"),
    (("all",), "all"),
    (("and", ("open", 0, 3), ("shy",)), "(open 0 3 and shy)"),
    (("or", ("closed",), ("with", ())), "(closed or with)"),
    (("but", ("with", ()), ("with", ())), "(with but with)"),
    (("but", ("off", (1, 2)), ("long", 0, 0)), "(off 1 2 but long 0 0)"),
    (("and", ("or", ("shy",), ("all",)), ("but", ("closed",), ("over", (1,)))),
     "((shy or all) and (closed but over 1))"),
    (("or", ("shy",), ("or", ("shy",), ("and", ("past", ()), ("all",)))), "(shy or (shy or (past and all)))"),
]

JOINING = ("and", "or", "but")
ANY_SIGNS = [chr(code) for code in range(32, 127)] + ["\t", "\n"]


def one_sign_more_or_less(text):
    for place in range(len(text) + 1):
        if place < len(text):
            yield text[:place] + text[place + 1:]
        for sign in " ()0159-ashwdnTX.,\t\n":
            yield text[:place] + sign + text[place:]


def deep_text(word, depth, side, leaf="shy"):
    """Writes a thing of this depth, the deeper part always on this side, 0 or 1."""
    text = leaf
    for nothing in range(depth - 1):
        text = f"(closed {word} {text})" if side else f"({text} {word} closed)"
    return text


def deep_thing(word, depth, side, leaf=("shy",)):
    thing = leaf
    for nothing in range(depth - 1):
        thing = (word, ("closed",), thing) if side else (word, thing, ("closed",))
    return thing


class TextCase(Case):
    def writes_none(self, asked, thing):
        self.refuses(NoText, asked, thing)

    def told_or_refused(self, read, show, text):
        """What is read is what the text writes; else it is refused."""
        try:
            told = read(text)
        except NoText:
            self.writes_none(read, text)
            return None
        self.assertEqual(show(told), text)
        return told


class WishTextTest(TextCase):
    def test_each_form(self):
        for wish, text in WRITTEN:
            self.tells(text, show_wish, wish)
            self.tells(wish, read_wish, text)

    def test_there_and_back(self):
        source = random.Random(181)
        for nothing in range(200):
            wish = random_wish(source, grid(3, 4), source.randint(1, 6))
            text = show_wish(wish)
            self.assertEqual(read_wish(text), wish)
            self.assertIs(is_wish(read_wish(text)), True)

    def test_depth_of_eight_and_long_lists(self):
        wish = ("open", 0, 1)
        for word in ("and", "or", "but", "and", "or", "but", "and"):
            wish = (word, wish, wish)
        self.tells(wish, read_wish, show_wish(wish))
        wish = ("with", tuple(range(900)))
        self.tells(wish, read_wish, "with " + " ".join(map(str, range(900))))

    def test_depths(self):
        for word, side, depth in itertools.product(JOINING, (0, 1), range(1, 13)):
            text = deep_text(word, depth, side)
            if depth <= 8:
                self.tells(deep_thing(word, depth, side), read_wish, text)
            else:
                self.writes_none(read_wish, text)

    def test_depth_of_each_leaf(self):
        for wish, text in WRITTEN[:20]:
            for word, side in itertools.product(JOINING, (0, 1)):
                self.tells(deep_thing(word, 8, side, wish), read_wish, deep_text(word, 8, side, text))
                self.writes_none(read_wish, deep_text(word, 9, side, text))

    def test_depth_of_the_greater_within(self):
        for one, other in itertools.product(range(1, 10), repeat=2):
            text = f"({deep_text('or', one, 0)} but {deep_text('and', other, 1)})"
            if one <= 7 and other <= 7:
                self.tells(("but", deep_thing("or", one, 0), deep_thing("and", other, 1)), read_wish, text)
            else:
                self.writes_none(read_wish, text)

    def test_both_sides_deep(self):
        text, thing = "all", ("all",)
        for depth in range(2, 10):
            text, thing = f"({text} or {text})", ("or", thing, thing)
            if depth <= 8:
                self.tells(thing, read_wish, text)
            else:
                self.writes_none(read_wish, text)

    def test_deeper_things_are_shown_all_the_same(self):
        for word, side, depth in itertools.product(JOINING, (0, 1), range(1, 13)):
            self.tells(deep_text(word, depth, side), show_wish, deep_thing(word, depth, side))

    def test_very_deep_texts(self):
        for wrong in ("(" * 300 + "shy" + " or all)" * 300, "(all or " * 300 + "shy" + ")" * 300, "(" * 4000,
                      ")" * 4000, "(" * 300 + "shy" + " or all)" * 299, "()" * 2000,
                      "(" * 300 + "shy" + " or all)" * 301, "(shy or " * 450, "(shy or " * 450 + ")" * 400):
            self.writes_none(read_wish, wrong)

    def test_things_of_any_kind(self):
        for thing in THINGS:
            self.writes_none(read_wish, thing)
        for wish, text in WRITTEN:
            for thing in (wish, [text], (text,), text.encode(), {text: text}):
                if not isinstance(thing, str):
                    self.writes_none(read_wish, thing)

    def test_one_sign_more_or_less(self):
        wishes = {text: wish for wish, text in WRITTEN}
        for wish, text in WRITTEN:
            for other in one_sign_more_or_less(text):
                told = self.told_or_refused(read_wish, show_wish, other)
                if told is not None:
                    self.assertIs(is_wish(told), True)
                    self.assertNotEqual(told, wish)
                    self.assertEqual(told, wishes.get(other, told))

    def test_what_one_sign_makes_another_wish(self):
        for text, wish in (("with 30", ("with", (30,))), ("open 10 3", ("open", 10, 3)), ("long 1 25", ("long", 1, 25)),
                           ("off 1 22", ("off", (1, 22))), ("over 15", ("over", (15,)))):
            self.tells(wish, read_wish, text)

    def test_blanks(self):
        for wish, text in WRITTEN:
            for other in (" " + text, text + " ", "  " + text, text + "\n", "\n" + text, "\t" + text,
                          text.replace(" ", "  "),
                          text.replace(" ", "\t"), text.replace(" ", "\n"), text.replace(" ", ""),
                          text.replace("(", "( "),
                          text.replace(")", " )"), text.replace("(", " (")):
                if other != text:
                    self.writes_none(read_wish, other)

    def test_numbers(self):
        for number in ("10000", "00", "01", "0001", "-1", "-0", "+1", "1.0", "1e1", "x", "1_0", "12345", "", "\u0661",
                       "\u00b2", "\uff11", "0x1", "99999", " 1"):
            for text in (f"open {number} 1", f"open 1 {number}", f"long 0 {number}", f"long {number} 5",
                         f"with {number}",
                         f"with 1 {number}", f"off {number} 1", f"over {number}", f"past 2 {number}",
                         f"(with {number} and shy)"):
                self.writes_none(read_wish, text)
        for number in ("0", "9", "10", "99", "100", "999", "1000", "9999"):
            self.tells(("open", int(number), 1), read_wish, f"open {number} 1")
            self.tells(("long", 1, int(number)), read_wish, f"long 1 {number}")
            self.tells(("with", (int(number),)), read_wish, f"with {number}")

    def test_numbers_too_many_or_too_few(self):
        for text in ("open", "open 1", "open 1 2 3", "closed 1", "shy 0", "all 0", "long", "long 1", "long 1 2 3", "1",
                     "0", "1 2", "1 with", "(open 1 and shy)", "(shy 1 and shy)", "(shy and shy 1)", "(shy and 1 shy)",
                     "(1 shy and shy)", "(shy 1 or 1)", "(1 and 2)", "(shy and shy) 1"):
            self.writes_none(read_wish, text)

    def test_brackets(self):
        for text in ("shy and all", "(shy and all", "shy and all)", "((shy and all))", "(shy)", "((shy))", "()", "(",
                     ")",
                     "(shy and all))", "((shy and all)", "(shy and all or closed)", "(shy and all and closed)",
                     "(shy and)", "(and shy)", "(and)", "(and and and)", "and", "or", "but", "(shy all)", "shy all",
                     "(shy and (all))", "(shy and all)(shy and all)", "(shy and all) (shy and all)", ")(",
                     ")shy and all(",
                     "(shy and all) and shy", "(shy not all)", "(shy And all)", "(shy and and all)", "(shy (and) all)",
                     "(shy and all closed)", "(closed shy and all)", "((shy and all) or)", "(or (shy and all))",
                     "[shy and all]", "{shy and all}", "(with (1) and shy)", "with (1)", "open (0 1)",
                     "(open 0 and 1)"):
            self.writes_none(read_wish, text)

    def test_other_words(self):
        for text in ("Shy", "SHY", "shyly", "sh", "close", "closeds", "Open 0 1", "opens 0 1", "wit 0", "without 1",
                     "none",
                     "open,0,1", "open 0,1", "with 1,2", "open-0-1", "\"shy\"", "'shy'", "('shy',)", "all shy",
                     "shy\x00",
                     "sh\u1ef3", "with\u00a01", "closed\r", "\ufeffshy"):
            self.writes_none(read_wish, text)

    def test_all_short_texts(self):
        for size in range(4):
            for signs in itertools.product("alshy (1", repeat=size):
                text = "".join(signs)
                if text in ("all", "shy"):
                    self.tells((text,), read_wish, text)
                else:
                    self.writes_none(read_wish, text)


class WebTextTest(TextCase):
    def test_by_hand(self):
        for web, text in (((1, []), "1"), ((16, []), "16"), ((2, [(0, 1)]), "2 0-1"),
                          ((4, [(0, 1), (1, 2), (2, 3), (0, 2)]), "4 0-1 1-2 2-3 0-2"),
                          ((16, [(14, 15), (0, 10)]), "16 14-15 0-10"), (grid(2, 2), "4 0-1 0-2 1-3 2-3")):
            self.tells(text, show_web, (web[0], list(web[1])))
            self.tells((web[0], list(web[1])), read_web, text)

    def test_there_and_back(self):
        webs = list(random_webs(182, 60, 16, 30)) + [ringed_web(1), (9, all_pairs(9)[:30]), (16, all_pairs(16)[-30:])]
        for web in webs:
            self.tells((web[0], list(web[1])), read_web, show_web(web))

    def test_as_many_as_may_be_and_more(self):
        roads = all_pairs(16)
        for places, many, right in ((16, 30, True), (16, 31, False), (17, 3, False), (17, 0, False), (16, 0, True),
                                    (9999, 0, False), (9, 30, True), (9, 31, False), (9, 36, False)):
            web = (places, all_pairs(min(places, 16))[:many])
            if right:
                self.tells((web[0], list(web[1])), read_web, show_web(web))
            else:
                self.writes_none(read_web, show_web(web))
        self.writes_none(read_web, show_web((16, roads)))

    def test_what_is_no_web(self):
        for text in ("0", "0 0-1", "2 0-1 0-1", "3 0-1 1-2 0-1", "2 1-0", "2 0-0", "2 0-2", "1 0-1", "3 1-9999",
                     "3 0-3",
                     "4 2-1", "16 0-16", "16 15-15"):
            self.writes_none(read_web, text)

    def test_one_sign_more_or_less(self):
        for text in ("1", "16", "2 0-1", "4 0-1 1-2 2-3 0-2", "16 14-15 0-10"):
            for other in one_sign_more_or_less(text):
                told = self.told_or_refused(read_web, show_web, other)
                if told is not None:
                    self.assertEqual(web_of(*told), told)
                    self.assertTrue(told[0] <= 16 and len(told[1]) <= 30)

    def test_blanks(self):
        for text in ("3", "2 0-1", "4 0-1 1-2 2-3"):
            for other in (" " + text, text + " ", text.replace(" ", "  "), text + "\n", text.replace(" ", "\t"),
                          text.replace("-", " - "), text.replace("-", "- "), text.replace(" ", "\n"),
                          text.replace(" ", "")):
                if other != text:
                    self.writes_none(read_web, other)

    def test_numbers(self):
        for number in ("00", "01", "001", "0001", "10000", "00000", "-1", "+1", "-0", "1.0", "x", "", "\u0661",
                       "\u00b2",
                       "1_0"):
            for text in (number, f"{number} 0-1", f"4 {number}-2", f"4 0-{number}", f"4 0-1 {number}-3",
                         f"4 0-3 1-{number}"):
                self.writes_none(read_web, text)

    def test_other_texts(self):
        for text in ("", " ", "-", "3-4", "0-1", "3 0", "3 0-1-2", "3 0--1", "3 0-", "3 -1", "3 0_1", "3 0,1",
                     "3 (0-1)",
                     "3,0-1", "(3, [(0, 1)])", "three", "3 0-1, 1-2", "3 0-1;1-2", "3 0\u20131", "3 0 -1", "3 0-1 1"):
            self.writes_none(read_web, text)

    def test_things_of_any_kind(self):
        for thing in THINGS + [(3, [(0, 1)]), ["3"], 3, (3, []), b"3 0-1", ("3",)]:
            self.writes_none(read_web, thing)

    def test_all_short_texts(self):
        right = {"1": (1, []), "2": (2, []), "11": (11, []), "12": (12, []), "10": (10, [])}
        for size in range(5):
            for signs in itertools.product("012 -", repeat=size):
                text = "".join(signs)
                if text in right:
                    self.tells((right[text][0], []), read_web, text)
                else:
                    self.writes_none(read_web, text)

    def test_any_sign_between(self):
        for sign in ANY_SIGNS:
            for text in (f"3{sign}0-1", f"3 0{sign}1", f"3 0-1{sign}1-2", sign, f"{sign}3", f"3{sign}"):
                self.told_or_refused(read_web, show_web, text)
                self.told_or_refused(read_wish, show_wish, text)
