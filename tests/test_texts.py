"""Texts of trees, runs, steps, stages and deeds (12.1 to 12.5)."""

import itertools
import random
import re
import unittest

from noteshold.errors import BadText, NoteError
from noteshold.stage_texts import read_deeds, read_stage, write_deeds, write_stage
from noteshold.stages import Stage
from noteshold.step_texts import read_step, write_step
from noteshold.steps import Run, Step
from noteshold.texts import read_run, read_runs, read_tree, write_run, write_runs, write_tree
from noteshold.trees import Tree
from tests import branches
from tests.houses import some_work
from tests.worlds import odd_things, raised, read, small_trees, some_run, some_steps

READERS = [read_tree, read_run, read_runs, read_step, read_stage, read_deeds]
ODD_TEXT = "a\"b\\c\nd\\n\\\"e\n"
ODD_QUOTED = '"a\\"b\\\\c\\nd\\\\n\\\\\\"e\\n"'

# Lines that no text has anywhere.
GARBAGE = ["", " ", "a", "\"\"", "a \"", "a \"\"\"", "a \"\\\"", "a \"\\x\"", "a  \"\"", " a \"\"", "a \"\" ", "A \"\"", "a/ \"\"",
           "read", "read a", "read a ", "read a \"", "read a ()", "list a \"\"", "list a (b", "list a (b a)", "list a (a a/)",
           "list a ()", "list a (a  b)", "list a (A)", "look a -", "read A -", "end", "end ", "end \"", "end a", "end -",
           "make", "make a", "make a -", "make  a \"\"", "run", "run A", "run a b", "shelf a", "shelf a -1", "shelf a 01",
           "shelf a +1", "shelf A 1", "shelf a 1 ", "house a b c", "house a b c d e", "ask a", "ask look a", "ask read A",
           "ask read a ", "case", "case ", "case \"", "case (", "else ", "els", "edit a", "edit a x", "edit A 1", "put a",
           "drop A", "drop a ", "copy a", "copy a B", "move a 2 b", "move a 00 b", "move a b", "choose", "choose a b",
           "build A", "lose", "lose a ", "bild a"]


def write_lines(lines):
    return "".join(line + "\n" for line in lines)


def mutated(chance, lines, alphabet):
    """The lines with one left out, doubled, exchanged, put in or otherwise."""
    lines = list(lines)
    place = chance.randrange(len(lines) + 1)
    word = chance.choice(["out", "twice", "swap", "in", "in", "other", "other"])
    if word == "in":
        lines.insert(place, chance.choice(alphabet))
    elif place < len(lines):
        if word == "out":
            del lines[place]
        elif word == "twice":
            lines.insert(place, lines[place])
        elif word == "swap":
            other = chance.randrange(len(lines))
            lines[place], lines[other] = lines[other], lines[place]
        else:
            lines[place] = chance.choice(alphabet)
    return lines


class World:
    """All texts of a small world: what begins one is told by these alone."""

    def __init__(self, texts):
        self.texts = {tuple(text.split("\n")[:-1]): True for text in texts}
        self.begins = {lines[:k]: True for lines in self.texts for k in range(len(lines) + 1)}

    def wrong_line(self, lines):
        """The number of the line at which a text is refused, None if it is one."""
        for k in range(1, len(lines) + 1):
            if tuple(lines[:k]) not in self.begins:
                return k
        return None if tuple(lines) in self.texts else len(lines) + 1


class WorldsTest(unittest.TestCase):
    def go_through(self, reader, writer, objects, alphabet, many=1500, extra=()):
        """Writes and reads all objects; texts with one line otherwise are read as they stand, or refused where told."""
        texts = [writer(one) for one in objects]
        for one, text in zip(objects, texts):
            self.assertEqual(reader(text), one)
            self.assertEqual(writer(reader(text)), text)
        self.assertEqual(len(set(texts)), len(texts))
        world = World(texts + [writer(one) for one in extra])
        chance = random.Random(7)
        right = wrong = 0
        for _ in range(many):
            lines = chance.choice(texts).split("\n")[:-1]
            for _ in range(chance.choice([1, 1, 2])):
                lines = mutated(chance, lines, alphabet + GARBAGE * (chance.random() < 0.3))
            expected = world.wrong_line(lines)
            text = write_lines(lines)
            if expected is None:
                right += 1
                self.assertEqual(writer(reader(text)), text)
            else:
                wrong += 1
                self.assertEqual(raised(BadText, lambda: reader(text)).line, expected, text)
            if lines and lines[-1] != "":
                # Without its line feed the last line is refused, if none ahead of it was.
                short = min(len(lines), expected or len(lines))
                self.assertEqual(raised(BadText, lambda: reader(text[:-1])).line, short, text)
        self.assertGreater(min(right, wrong), 30)

    def test_trees(self):
        files = {"a": ["", "0"], "a/b": ["0"], "ab": ["\\"], "b/c": ["\n"], "b/d": ["\"", "0"]}
        objects = []
        for paths in [part for size in range(6) for part in itertools.combinations(files, size)]:
            for told in itertools.product(*[files[path] for path in paths]):
                try:
                    objects.append(Tree(dict(zip(paths, told))))
                except NoteError:
                    pass
        alphabet = sorted({line for one in objects for line in write_tree(one).split("\n")[:-1]})
        self.go_through(read_tree, write_tree, objects, alphabet)

    def small_runs(self):
        sights = [read("a", None), read("a", "-"), (("list", "a"), None), (("list", "a"), ("b", "c/")), read("a/b", "")]
        objects = []
        for size in range(5):
            for told in itertools.permutations(sights, size):
                for outcome, made in itertools.product(["", "x\ny"], [[], [("a", "")], [("a/b", ""), ("b", "\\")]]):
                    try:
                        objects.append(Run(told, outcome, made))
                    except NoteError:
                        pass
        return objects

    def test_runs(self):
        objects = self.small_runs()
        # A made list by itself begins, and ends, at each of its lines.
        objects += [Run(one.sights, one.outcome, [("a/b", "")]) for one in objects if not one.made]
        objects += [Run(one.sights, one.outcome, [("b", "\\")]) for one in objects if not one.made]
        objects += [Run(one.sights, one.outcome, [("a", ""), ("b", "\\")]) for one in objects if not one.made]
        alphabet = sorted({line for one in objects for line in write_run(one).split("\n")[:-1]})
        self.go_through(read_run, write_run, objects, alphabet)

    def test_runs_by_names(self):
        runs = [Run([], ""), Run([], "", [("a", "")]), Run([read("a", None)], ""), Run([read("a", None)], "", [("a", "")])]
        objects = [dict(zip(names, told)) for size in range(4) for names in itertools.combinations("abc", size)
                   for told in itertools.product(runs, repeat=size)]
        alphabet = sorted({line for one in objects for line in write_runs(one).split("\n")[:-1]})
        self.go_through(read_runs, write_runs, objects, alphabet)
        self.assertEqual(list(read_runs(write_runs({"b": runs[0], "a": runs[1]}))), ["a", "b"])
        self.assertEqual(write_runs(runs={}), "")

    def all_trees_of_choices(self, looks):
        found = [("end", "", ()), ("end", "", (("a", ""),))]
        for look, answers in looks.items():
            parts = self.all_trees_of_choices({other: told for other, told in looks.items() if other != look})
            for size in range(len(answers) + 1):
                for told in itertools.permutations(answers, size):
                    for row in itertools.product(parts, repeat=size + 1):
                        found.append(("ask", look, tuple(zip(told, row)), row[-1]))
        return found

    def test_steps(self):
        told = self.all_trees_of_choices({("read", "a"): ["-", ""], ("list", "b"): [("a/",)]})
        objects = [Step(tree) for tree in told]
        alphabet = sorted({line for one in objects for line in write_step(one).split("\n")[:-1]})
        texts = [write_step(one) for one in objects]
        self.assertEqual(len(set(texts)), len(texts))
        # Steps are equal whatever the order of their cases, each writes its own.
        self.assertEqual([read_step(text).tree() for text in texts], told)
        self.go_through(read_step, write_step, objects, alphabet, 4000)

    def small_stages(self, paths):
        trees = [Tree(dict.fromkeys(part, "")) for size in range(3) for part in itertools.combinations(paths, size)]
        for names in [(), ("a",), ("b",), ("a", "b")]:
            for told in itertools.product(trees, repeat=len(names)):
                shelves = dict(zip(names, told))
                values = [(one, other, "c") for one in names for other in names]
                for first, second in itertools.product([None, *values], repeat=2):
                    houses = {name: value for name, value in [("h", first), ("k", second)] if value is not None}
                    try:
                        yield Stage(shelves, houses)
                    except NoteError:
                        pass

    def test_stages(self):
        objects = list(self.small_stages(["a", "b/c", "b/d"]))
        alphabet = sorted({line for one in objects for line in write_stage(one).split("\n")[:-1]})
        extra = list(self.small_stages(["a", "b/c", "b/d", "z", "zz"]))
        self.go_through(read_stage, write_stage, objects, alphabet, 4000, extra)

    def wrong_deed_line(self, lines):
        """Where a row of lines of deeds is refused, told by how each line looks; None if it is not."""
        name, path = "[a-z0-9]{1,8}", "[a-z0-9]{1,8}(/[a-z0-9]{1,8})*"
        text = '"([^"\\\\]|\\\\["\\\\n])*"'
        plain = f"copy {name} {name}|move {name} [01] {name}|(choose|build|lose) {name}"
        left = 0
        for k, line in enumerate(lines):
            edit = re.fullmatch(f"edit {name} (0|[1-9][0-9]*)", line)
            if left > 0 and re.fullmatch(f"put {path} {text}|drop {path}", line):
                left -= 1
            elif left == 0 and edit:
                left = int(edit.group(1))
            elif left > 0 or not re.fullmatch(plain, line):
                return k + 1
        return None if left == 0 else len(lines) + 1

    def test_deeds(self):
        deeds = [("edit", "a", ()), ("edit", "b", (("put", "a/b", "\n"),)), ("edit", "a", (("drop", "a"), ("put", "c", "\""))),
                 ("copy", "a", "b"), ("move", "h", 0, "a"), ("move", "h", 1, "b"), ("choose", "h"), ("build", "h"), ("lose", "c")]
        chance = random.Random(3)
        rows = [[]] + [chance.choices(deeds, k=chance.randint(1, 5)) for _ in range(200)]
        alphabet = sorted({line for deed in deeds for line in write_deeds([deed]).split("\n")[:-1]}) + ["edit a 99999999999999999999"]
        wrong = 0
        for row in rows:
            text = write_deeds(row)
            self.assertEqual(read_deeds(text), row)
            for _ in range(10):
                lines = mutated(chance, text.split("\n")[:-1], alphabet + GARBAGE * (chance.random() < 0.3))
                expected = self.wrong_deed_line(lines)
                if expected is None:
                    self.assertEqual(write_deeds(read_deeds(write_lines(lines))), write_lines(lines))
                else:
                    wrong += 1
                    self.assertEqual(raised(BadText, lambda: read_deeds(write_lines(lines))).line, expected, lines)
        self.assertGreater(wrong, 300)


class TextsTest(unittest.TestCase):
    def test_as_they_are_written(self):
        tree = Tree({"b/c": ODD_TEXT, "a": ""})
        self.assertEqual(write_tree(tree=tree), f'a ""\nb/c {ODD_QUOTED}\n')
        self.assertEqual(read_tree(text=write_tree(tree)), tree)
        self.assertEqual(write_tree(Tree()), "")
        run = Run([read("a", None), read("b", ODD_TEXT), (("list", "c"), ("d", "e/")), (("list", "a"), None)], "x",
                  [("q", "2"), ("p/r", "1")])
        text = f'read a -\nread b {ODD_QUOTED}\nlist c (d e/)\nlist a -\nend "x"\nmake p/r "1"\nmake q "2"\n'
        self.assertEqual(write_run(run=run), text)
        self.assertEqual(read_run(text=text), run)
        self.assertEqual(write_runs({"b": run, "a": Run([], "")}), 'run a\nend ""\nrun b\n' + text)
        step = Step(("ask", ("list", "a"), [(("b", "c/"), ("ask", ("read", "a/b"), [], ("end", "1", [("x", "2"), ("w", "3")]))),
                                            (None, ("end", "4", []))], ("end", "5", [])))
        text = ('ask list a\ncase (b c/)\n  ask read a/b\n  else\n    end "1"\n    make w "3"\n    make x "2"\ncase -\n'
                '  end "4"\nelse\n  end "5"\n')
        self.assertEqual(write_step(step=step), text)
        self.assertEqual(read_step(text=text).tree(), step.tree())
        stage = Stage({"main": tree, "void": Tree()}, {"z": ("main", "void", "c"), "h": ("void", "void", "d")})
        text = f'shelf main 2\na ""\nb/c {ODD_QUOTED}\nshelf void 0\nhouse h void void d\nhouse z main void c\n'
        self.assertEqual(write_stage(stage=stage), text)
        self.assertEqual(read_stage(text=text), stage)
        deeds = [["edit", "main", [["put", "a", "1\n"], ("drop", "b/c")]], ("copy", "a", "b"), ["move", "h", 1, "b"],
                 ("choose", "h"), ("build", "h"), ("lose", "c"), ("edit", "none", [])]
        text = ('edit main 2\nput a "1\\n"\ndrop b/c\ncopy a b\nmove h 1 b\nchoose h\nbuild h\nlose c\nedit none 0\n')
        self.assertEqual(write_deeds(deeds=deeds), text)
        self.assertEqual(read_deeds(text=text), [("edit", "main", (("put", "a", "1\n"), ("drop", "b/c"))), ("copy", "a", "b"),
                                                 ("move", "h", 1, "b"), ("choose", "h"), ("build", "h"), ("lose", "c"),
                                                 ("edit", "none", ())])

    def test_larger_worlds(self):
        for tree in small_trees():
            self.assertEqual(read_tree(write_tree(tree)), tree)
        chance = random.Random(5)
        trees = small_trees()
        runs = {f"r{k}": some_run(chance, trees, 6) for k in range(60)}
        told = read_runs(write_runs(runs))
        self.assertEqual(told, runs)
        self.assertEqual(list(told), sorted(runs))
        for step in some_steps(11, 60):
            self.assertEqual(read_step(write_step(step)).tree(), step.tree())
        for seed in range(30):
            _, _, steps, sources = some_work(seed)
            self.assertEqual(read_tree(write_tree(sources)), sources)
            for step in steps.values():
                self.assertEqual(write_step(read_step(write_step(step))), write_step(step))
            chance = random.Random(seed)
            stage, deeds = branches.some_stage(chance), branches.some_deeds(chance)
            self.assertEqual(read_stage(write_stage(stage)), stage)
            again = read_deeds(write_deeds(deeds))
            self.assertEqual([list(deed[:2]) for deed in again], [list(deed[:2]) for deed in deeds])
            self.assertEqual(write_deeds(again), write_deeds(deeds))

    def test_all_signs(self):
        signs = "".join(chr(code) for code in range(32, 127)) + "\n"
        for text in [signs, *signs, *[one + other for one in "\\\"n\n" for other in "\\\"n\n"], signs * 20]:
            self.assertEqual(read_tree(write_tree(Tree({"a": text}))), Tree({"a": text}))
            self.assertEqual(write_tree(Tree({"a": text})).count("\n"), 1)

    def test_no_string(self):
        for reader in READERS:
            for thing in [*odd_things(), b"", b"a"]:
                if not isinstance(thing, str):
                    self.assertEqual(raised(BadText, lambda: reader(thing)).line, 0)

    def test_empty_and_short_ones(self):
        self.assertEqual([read_tree(""), read_runs(""), read_stage(""), read_deeds("")], [Tree(), {}, Stage({}, {}), []])
        for reader in (read_run, read_step):
            self.assertEqual(raised(BadText, lambda: reader("")).line, 1)
        for reader, text, line in [(read_run, "read a -\n", 2), (read_runs, "run a\n", 2), (read_step, "ask read a\n", 2),
                                   (read_step, "ask read a\nelse\n", 3), (read_stage, "shelf a 2\nb \"\"\n", 3),
                                   (read_deeds, "edit a 1\n", 2), (read_step, "ask read a\ncase -\n  end \"\"\n", 4),
                                   (read_tree, "a \"\"", 1), (read_run, "end \"\"", 1), (read_stage, "shelf a 9\nb", 2),
                                   (read_deeds, "build a\nbuild b", 2), (read_tree, "a \"\"\n\n", 2), (read_step, "\n", 1)]:
            self.assertEqual(raised(BadText, lambda: reader(text)).line, line)

    def test_lines_that_what_is_ahead_bars(self):
        cases = [(read_tree, 'a ""\na/b ""\n', 2), (read_tree, 'b ""\na ""\n', 2), (read_tree, 'a ""\na ""\n', 2),
                 (read_run, 'read a "x"\nlist a (b)\nend ""\n', 2), (read_run, 'read a -\nread a -\nend ""\n', 2),
                 (read_run, 'read a/b "x"\nlist a (c)\nend ""\n', 2), (read_run, 'end ""\nread a -\n', 2),
                 (read_run, 'end ""\nend ""\n', 2), (read_run, 'end ""\nmake b ""\nmake a ""\n', 3),
                 (read_run, 'end ""\nmake b ""\nmake b/c ""\n', 3), (read_run, 'make a ""\nend ""\n', 1),
                 (read_runs, 'run b\nend ""\nrun a\nend ""\n', 3), (read_runs, 'run b\nrun c\n', 2),
                 (read_runs, 'run b\nend ""\nrun b\n', 3), (read_runs, 'end ""\n', 1),
                 (read_step, 'ask read a\ncase -\n  ask read a\n', 3), (read_step, 'ask read a\ncase (b)\n', 2),
                 (read_step, 'ask list a\ncase "b"\n', 2), (read_step, 'ask read a\ncase -\n  end ""\ncase -\n', 4),
                 (read_step, 'ask read a\nelse\n  end ""\ncase -\n', 4), (read_step, 'ask read a\ncase -\nend ""\n', 3),
                 (read_step, 'ask read a\ncase -\n    end ""\n', 3), (read_step, 'end ""\n  make a ""\n', 2),
                 (read_step, ' end ""\n', 1), (read_step, 'end ""\nend ""\n', 2), (read_step, 'end ""\nelse\n', 2),
                 (read_step, 'ask read a\nelse\n  end ""\nmake a ""\n', 4), (read_step, 'ask read a\n  else\n', 2),
                 (read_stage, 'shelf b 0\nshelf a 0\n', 2), (read_stage, 'shelf a 1\nshelf b 0\n', 2),
                 (read_stage, 'shelf a 0\nb ""\n', 2), (read_stage, 'shelf a 0\nhouse h a b c\n', 2),
                 (read_stage, 'shelf a 1\nx ""\nhouse h a a c\n', 3), (read_stage, 'shelf a 0\nhouse h a a c\nshelf b 0\n', 3),
                 (read_stage, 'shelf a 0\nhouse h a a c\nshelf z 0\n', 3),
                 (read_stage, 'shelf a 1\nx/y ""\nshelf b 1\nx/z ""\nhouse h a b c\n', 5),
                 (read_stage, 'shelf a 0\nhouse k a a c\nhouse h a a c\n', 3), (read_stage, 'shelf a 2\nb ""\nb/c ""\n', 3),
                 (read_stage, 'shelf a 2\nzzzzzzzz ""\n', 2), (read_deeds, 'edit a 1\nbuild h\n', 2),
                 (read_deeds, 'put a ""\n', 1), (read_deeds, 'edit a 0\ndrop b\n', 2)]
        for reader, text, line in cases:
            self.assertEqual(raised(BadText, lambda: reader(text)).line, line, text)
        # The last names bar nothing where nothing has to come behind them.
        self.assertEqual(read_stage('shelf zzzzzzzz 1\nzzzzzzzz ""\n').shelves(), {"zzzzzzzz": Tree({"zzzzzzzz": ""})})
        self.assertEqual(len(read_stage('shelf a 2\nzzzzzzzz/y ""\nzzzzzzzz/z ""\n').shelves()["a"]), 2)

    def test_lines_that_stand_nowhere(self):
        ahead = {read_tree: ['0 ""'], read_run: ["read x -", 'end ""'], read_runs: ["run x", 'end ""'],
                 read_step: ["ask read x", "case -", '  end ""', "else"], read_deeds: ["edit a 1", "drop b"],
                 read_stage: ["shelf a 1", '0 ""', "shelf b 0", "house h a b c"]}
        more = ['a "b', 'a b"', 'a "', "read a b", 'read a "b', 'read a b"', "list a (b", "list a b)", "list a (", "list a )", "list a (bx",
                "list a xb)", 'read a xb"', "home z b b c", "house A b b c", "house z b b", "house z b b c d",
                "cast -", "cases -", "case", "elsewhere", "shelves a 0", "self a 0", "shelf", "shelf A 0", "houses h a a c",
                "home h a a c", "house A a a c", "house", "move h", "move", "moves h 0 a", "copy a", "drops b", "drop A", 'putt a ""',
                'runs a', 'makes a ""', "asks read b", "take a", "bring a b", "give a b c", "edits a 0", "build", "lose A"]
        for reader, lines in ahead.items():
            for k in range(len(lines) + 1):
                for line in GARBAGE + more:
                    text = write_lines([*lines[:k], line])
                    self.assertEqual(raised(BadText, lambda: reader(text)).line, k + 1, text)

    def test_other_looks_beside_one_another(self):
        text = 'ask read a\ncase -\n  ask read b\n  else\n    end ""\nelse\n  ask read b\n  else\n    end ""\n'
        self.assertEqual(write_step(read_step(text)), text)


if __name__ == "__main__":
    unittest.main()
