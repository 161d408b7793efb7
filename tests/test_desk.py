import unittest

from coretower.desk import Desk
from coretower.ends import Ends
from coretower.errors import (
    BadAsk, BadPlace, BadText, BadTrace, NoEnd, NoOperation, NoRung, NoThing, OtherNames, TooLarge)
from coretower.likeness import parting
from coretower.lone import lone_table
from coretower.mending import fewest_places
from coretower.pages import Page
from coretower.pools import Pool
from coretower.reader import page_of
from coretower.recipes import lost
from coretower.rings import ring_of
from coretower.traces import order_of
from coretower.writer import told_block
from tests.samples import back, call
from tests.test_reader import text_of

LINES = [
    "table t 0", "op up 0:1 1:2 2:0", "op look 0:0 1:1 2:2", "end",
    "table tt 1", "op look 2:0 0:1 1:2", "op up 2:1 0:2 1:0", "end",
    "table five 0", "op up 0:1 1:2 2:3 3:0", "op look 0:0 1:1 2:2 3:3", "end",
    "table odd 0", "op odd 0:0", "end",
    "build safe 3 0", "cell x 0", "op up 1 0", "lock m", "read a x", "write x a+1", "free m", "give a", "op look 1 0", "read a x",
    "give a", "end",
    "build hasty 3 0", "cell x 0", "op up 1 0", "read a x", "write x a+1", "give a", "op look 1 0", "read a x", "give a", "end",
    "build guarded 3 0", "cell x 0", "op up 1 0", "lock m", "write x 1", "free m", "give 0", "end",
    "build endless 2 0", "cell x 0", "op up 1 0", "give 0", "op wait 0 0", "read a x", "give 1 if a = 1", "end",
    "client c", "caller again up,look", "caller once up", "end",
    "client d", "caller once up", "caller once up", "end",
    "book strict", "keep read>read read>acquire read>write read>release read>both write>read write>write write>return", "end",
    "book weak", "fence soft write>read", "end",
    "recipe bad strict weak", "end",
    "recipe none weak strict", "row soft -", "row full -", "end",
    "rule every a,b", "entry - a", "entry - b", "entry a b", "entry b a", "end",
    "rule three b,a,c", "entry - a", "entry - b", "entry - c", "entry a c", "entry c b", "entry b a", "end",
    "rule rising a,b", "entry - a", "entry - b", "entry a b", "end",
    "plan p", "guard x m", "end",
    "pool o first 1", "end",
    "chooser s 2", "state 0|1 0 0", "end",
    "tower w t safe c", "recipe none", "window 3", "chooser s", "end",
    "tower v t hasty d", "end",
    "tower e odd safe c", "end",
]
TEXT = text_of(LINES)
KINDS = {"table": "t", "build": "safe", "client": "c", "book": "weak", "recipe": "bad", "rule": "every", "plan": "p", "pool": "o",
         "chooser": "s", "tower": "w"}


class DeskTest(unittest.TestCase):
    def setUp(self):
        self.desk = Desk(TEXT)
        self.page = self.desk.page

    def twice(self, line, wanted):
        for _ in range(2):
            told = self.desk.ask(line)
            self.assertEqual(told, wanted, line)
            told.append("?")

    def refused(self, line, error, *worths):
        before = self.desk.asked
        with self.assertRaises(error, msg=line) as caught:
            self.desk.ask(line)
        self.assertEqual(tuple(vars(caught.exception).values()), worths, line)
        self.assertEqual(self.desk.asked, before + 1)

    def test_the_page(self):
        self.assertIsInstance(self.page, Page)
        self.assertEqual(list(self.page), list(page_of(TEXT)))
        self.assertEqual(Desk("").asked, 0)
        with self.assertRaises(BadText) as caught:
            Desk(TEXT + "?")
        self.assertEqual(caught.exception.line, len(LINES))

    def test_tell(self):
        for name in self.page:
            self.twice(f"tell {name}", told_block(self.page, name))
        self.twice("tell v", ["tower v t hasty d", "end"])
        self.refused("tell zz", NoThing, "zz")

    def test_alike(self):
        self.twice("alike t t", ["alike"])
        self.twice("alike t tt", ["alike"])
        self.twice("alike t five", ["parted up up up up"])
        self.assertEqual(parting(self.page["t"], self.page["five"]), ["up"] * 4)
        self.twice("alike tt five", ["parted " + " ".join(parting(self.page["tt"], self.page["five"]))])
        self.refused("alike t odd", OtherNames)

    def test_lone(self):
        self.twice("lone safe", ["op up 0:1 1:2 2:0", "op look 0:0 1:1 2:2"])
        self.twice("lone guarded", ["op up 0:1 0:1"])
        table = lone_table(self.page["hasty"])
        self.assertEqual([table("up", at) for at in range(3)], [(0, 1), (1, 2), (2, 0)])
        self.refused("lone endless", NoEnd, "wait")

    def test_lost(self):
        pairs = lost(self.page["bad"][2])
        self.assertGreater(len(pairs), 3)
        self.twice("lost bad", [f"{first} {fence or '-'} {second}" for first, fence, second in pairs])
        self.assertIn("write - return", self.desk.ask("lost bad"))
        lines = self.desk.ask("lost none")
        self.assertEqual(lines, [f"{first} {fence or '-'} {second}" for first, fence, second in lost(self.page["none"][2])])
        self.assertEqual({line.split(" ")[1] for line in lines}, {"full"})
        self.assertIn("acquire full read", lines)

    def test_nothing_lost(self):
        desk = Desk(text_of(["book k", "end", "recipe r k k", "end"]))
        self.assertEqual(desk.ask("lost r"), [])

    def test_ring(self):
        self.twice("ring rising", ["never stuck"])
        for name in ("every", "three"):
            ring = ring_of(self.page[name])
            held = []
            for steps in ring.programs:
                held.append([])
                for word, lock in steps:
                    held[-1] = self.after(self.page[name], held[-1], word, lock)
            self.twice(f"ring {name}", [f"{','.join(locks)} wants {want}" for locks, want in zip(held, ring.wants)])
        self.assertEqual(len(self.desk.ask("ring every")), 2)
        self.assertEqual(len(self.desk.ask("ring three")), 3)

    def after(self, rule, held, word, name):
        return [lock for lock in rule.locks() if (lock == name and word == "lock") or (lock != name and lock in held)]

    def test_a_ring_of_programs_that_hold_two_locks(self):
        desk = Desk(text_of(["rule u c,a,b", "entry - a", "entry a c", "entry c,a b", "entry - b", "entry b c", "end"]))
        lines = desk.ask("ring u")
        self.assertEqual(sorted(lines), ["b wants c", "c,a wants b"])

    def test_follows(self):
        self.twice("follows guarded p", ["follows"])
        self.twice("follows safe p", ["breaks look 0"])
        self.twice("follows hasty p", ["breaks up 0"])

    def test_word(self):
        self.twice("word w", ["at once", "joined at once", "opened at once", "book at once", "recipe at once", "chooser at once"])
        self.twice("word v", ["never", "joined never"])
        for name in ("w", "v"):
            tower = self.page.built(name)
            self.assertEqual(self.desk.ask(f"word {name}"), [tower.whole()] + [
                f"{rung} {tower.word(rung)}" for rung in tower.rungs()[1:]])
        self.refused("word e", NoOperation, "up")

    def test_ends(self):
        for name in ("w", "v"):
            tower = self.page.built(name)
            for rung in tower:
                ends = Ends(tower[rung])
                worths = [ends.stuck(), ends.some(), ends.each(), ends.fair(), ends.singly()]
                words = ["stuck", "some", "each", "fair", "singly"]
                self.twice(f"ends {name} {rung}", [f"{word} {'yes' if worth else 'no'}" for word, worth in zip(words, worths)])
        self.twice("ends w opened", ["stuck no", "some yes", "each no", "fair no", "singly no"])
        self.twice("ends v table", ["stuck no", "some yes", "each yes", "fair yes", "singly yes"])
        self.refused("ends v chooser", NoRung, "chooser")
        self.refused("ends w zz", NoRung, "zz")
        self.refused("ends e joined", NoOperation, "up")

    def test_mend(self):
        self.twice("mend v once section:up", ["section:up", "tried 2"])
        self.twice("mend v once fence:up:1 section:look section:up fence:up:0", ["section:up", "tried 2"])
        self.twice("mend v afterwards fence:up:0", ["none"])
        self.twice("mend w once section:up", ["tried 1"])
        self.twice("mend w afterwards section:up fence:up:1", ["tried 1"])
        places = [("fence", "up", 0), ("section", "up"), ("fence", "look", 0)]
        mend = fewest_places(self.page.built("v"), places, "at once")
        self.assertEqual(self.desk.ask("mend v once fence:up:0 section:up fence:look:0"), [
            ":".join(str(part) for part in place) for place in mend.chosen] + [f"tried {len(mend.against) + 1}"])

    def test_mending_by_several_places(self):
        desk = Desk(text_of([
            "table t 0", "op a 0:1 1:2 2:0", "op b 0:1 1:2 2:0", "end", "build h 3 0", "cell x 0", "op a 1 0", "read n x", "write x n+1",
            "give n", "op b 1 0", "read n x", "write x n+1", "give n", "end", "client c", "caller once a", "caller once b", "end",
            "tower w t h c", "end"]))
        self.assertEqual(desk.ask("mend w once fence:b:0 section:b fence:a:1 section:a"), ["section:a", "section:b", "tried 6"])

    def test_what_mend_raises(self):
        self.refused("mend v once section:zz", BadPlace, ("section", "zz"))
        self.refused("mend v once section:up fence:up:2", BadPlace, ("fence", "up", 2))
        self.refused("mend v once fence:up:999", BadPlace, ("fence", "up", 999))
        self.refused("mend v once section:up section:up", BadPlace, ("section", "up"))
        self.refused("mend v once" + " section:up" * 6, TooLarge, 5)
        self.refused("mend e once section:up", NoOperation, "up")

    def test_order(self):
        trace = [call("up"), call("up", 1), back(0, 1), call("look", 2), back(1)]
        line = "order t 0:call:up 1:call:up 1:return:0 2:call:look 0:return:1"
        self.assertEqual(order_of(self.page["t"], trace), [(1, 0), (0, 0)])
        self.twice(line, ["1 0", "0 0"])
        self.twice("order t 0:call:up 0:return:2", ["none"])
        self.twice("order t 0:call:up 0:return:0 0:call:up 0:return:1", ["0 0", "0 1"])
        self.assertEqual(self.desk.ask("order t 0:call:up"), [f"{caller} {number}" for caller, number in
                                                            order_of(self.page["t"], [call("up")])])

    def test_what_order_raises(self):
        self.refused("order t 3:call:up", BadTrace, 0)
        self.refused("order t 0:call:up 0:return:10", BadTrace, 1)
        self.refused("order t 0:return:0", BadTrace, 0)
        self.refused("order t" + " 0:call:up 0:return:0" * 13, BadTrace, 24)
        self.refused("order t 0:call:zz", NoOperation, "zz")

    def test_bad_questions(self):
        lines = ["", " ", "tell", "tell ", "tell  t", " tell t", "tell t ", "tell\tt", "tell t\n", "Tell t", "tell T", "tell t1", "tell t t",
                 "tell abcdefghi", "tells t", "t", "alike t", "alike t t t", "alike t 0", "lone", "lone safe safe", "lost", "lost bad bad",
                 "ring", "ring every x", "follows safe", "follows safe p p", "follows p", "word", "word w joined", "ends", "ends w",
                 "ends w joined joined", "ends w Joined", "ends w 0", "mend", "mend v", "mend v once", "mend v at section:up",
                 "mend v once up", "mend v once section:", "mend v once section", "mend v once section:up:0", "mend v once fence:up",
                 "mend v once fence:up:", "mend v once fence:up:01", "mend v once fence:up:1000", "mend v once fence:up:a",
                 "mend v once lock:up", "mend v once lock:up:0", "mend v once places:up", "mend v once section:Up", "mend v never section:up", "mend v Once section:up",
                 "mend v at once section:up", "mend v once section:up section", "mend v section:up", "order", "order t", "order t 0",
                 "order t 0:call", "order t 0:call:", "order t 0:call:Up", "order t 0:call:up:0", "order t 00:call:up", "order t a:call:up",
                 "order t 0:return:up", "order t 0:return:", "order t 0:return:01", "order t 0:step:0", "order t 0:call:0",
                 "order t 1000:call:up", "order t 0:call:up 0:return", "order t 0:call:up ", "put x pool last 1", "tell t\u00e9", "tell \u0661"]
        for line in lines:
            self.refused(line, BadAsk, line)
        # A bad question is told ahead of names that are not there.
        self.refused("alike zz T", BadAsk, "alike zz T")
        self.refused("mend zz once zz", BadAsk, "mend zz once zz")

    def test_names_of_another_kind(self):
        questions = {"table": ["alike {} t", "alike t {}", "order {} 0:call:up"], "build": ["lone {}", "follows {} p"],
                     "plan": ["follows safe {}"], "recipe": ["lost {}"], "rule": ["ring {}"],
                     "tower": ["word {}", "ends {} joined", "mend {} once section:up"]}
        for kind, lines in questions.items():
            for line in lines:
                for other, name in list(KINDS.items()) + [("", "zz")]:
                    if other != kind:
                        self.refused(line.format(name), NoThing, name)

    def test_the_first_name_is_told(self):
        self.refused("alike zz yy", NoThing, "zz")
        self.refused("alike t yy", NoThing, "yy")
        self.refused("follows p safe", NoThing, "p")
        self.refused("follows safe safe", NoThing, "safe")
        self.refused("ends zz yy", NoThing, "zz")
        self.refused("order zz 9:call:yy", NoThing, "zz")

    def test_asked(self):
        self.assertEqual(self.desk.asked, 0)
        self.desk.ask("tell t")
        self.refused("tell zz", NoThing, "zz")
        self.refused("?", BadAsk, "?")
        self.refused("lone endless", NoEnd, "wait")
        self.desk.ask("word v")
        self.assertEqual(self.desk.asked, 5)

    def test_what_is_put_on_the_page_later(self):
        self.page.put("new", "pool", Pool("quiet", 3))
        self.assertEqual(self.desk.ask("tell new"), ["pool new quiet 3", "end"])


if __name__ == "__main__":
    unittest.main()
