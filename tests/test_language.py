"""The check of the language that .ci/run makes: what it finds, and that it finds nothing in the package."""

import importlib.util
import os
import tempfile
import unittest

TOP = os.path.dirname(os.path.dirname(os.path.abspath(__file__)))
SPEC = importlib.util.spec_from_file_location("check_language", os.path.join(TOP, ".ci", "check_language.py"))
CHECK = importlib.util.module_from_spec(SPEC)
SPEC.loader.exec_module(CHECK)

BROKEN = {
    "L2": ("import os\n", "from os import path\n", "from moredone.other import *\n", "from .other import told\n",
           "from heapq import merge\n", "def told():\n    from math import gcd\n    return gcd(1, 2)\n",
           "A = 1\nfrom math import gcd\n", "from math import gcd\n\n\ndef told():\n    k = gcd\n    return k(1, 2)\n",
           "from math import gcd\n\n\ndef told(rows):\n    return max(rows, key=gcd)\n"),
    "L3": ("A, B = 1, 2\n", "A = [1] * 3\n", "print(1)\n", "if True:\n    A = 1\n", "A = len([1])\n",
           "A = {'a': told}\n\n\ndef told():\n    return 1\n", "def told():\n    return 1\n\n\nA = told\n"),
    "L4": ("def told(rows=[]):\n    return rows\n", "def told(k=len):\n    return k\n"),
    "L5": ("class Box:\n    SIZE = 3\n", "class Box:\n    def __hash__(self):\n        return 1\n",
           "class Box:\n    def __add__(self, other, more):\n        return 1\n",
           "class Box:\n    def __getitem__(self, at):\n        return at\n",
           "class Box:\n    def __init__(self):\n        self.k = {}\n\n    def __contains__(self, x):\n"
           "        self.k[x] = 1\n        return True\n"),
    "L6": ("def told():\n    global k\n    k = 1\n", "async def told():\n    return 1\n",
           "def told(k):\n    try:\n        return k\n    finally:\n        k = 1\n"),
    "L7": ("def told(k):\n    return k / 2\n", "def told():\n    return 0.5\n",
           "def told(rows):\n    return any(row for row in rows)\n", "def told():\n    return ...\n",
           "def told(rows):\n    return len(*rows)\n",
           "def told(r):\n    return [0 for a in r for b in r for c in r for d in r for e in r for f in r for g in r]\n"),
    "L8": ("def told(rows):\n    return hash(rows)\n", "def told(rows):\n    return print(rows)\n",
           "def told(k):\n    return k.__class__\n"),
    "L10": ("def told():\n" + "    pass\n" * 40, "A = 1\n" + "\n" * 400, "A = '" + "a" * 120 + "'\n"),
    "L12": ("__a = 1\n", "_wall = 1\n", "def told(rows):\n    for _ in rows:\n        return _\n"),
    "L13": ("def told(k):\n    return k in {1, 2, 3}\n",),
    "L14": ("A = '\u00e4'\n", "A = 1\t\n", "# \u00e4\n"),
    "L15": ("A = 1\nA = 2\n", "A = [[1]]\n", "def told(id):\n    return id\n", "def max(rows):\n    return rows\n",
            "from moredone.other import told\n\n\ndef more(told):\n    return told\n",
            "class Box:\n    pass\n\n\ndef more():\n    Box = 1\n    return Box\n"),
    "L16": ("from moredone.other import lost\n",),
    "L17": ("def told(type):\n    return type\n", "A = 'enum'\n", "def mro():\n    return 1\n"),
    "L18": ("class Box:\n    def told(self):\n        return 1\n\n    def told(self):\n        return 2\n",
            "class Box:\n    def __init__(self):\n        self.told = 1\n\n    def told(self):\n        return 2\n"),
    "L19": ("def told():\n    raise ValueError\n", "def told(k):\n    try:\n        return k\n    except Exception:\n"
            "        return 1\n", "def told(k):\n    try:\n        return k\n    except:\n        return 1\n"),
    "L20": ("def told(k):\n    return k is 0\n", "def told(k, n):\n    return k is not n\n"),
    "L21": ("def told(k: int):\n    return k\n", "def told() -> int:\n    return 1\n"),
    "L22": ("def told(rows):\n    f = len\n    return f(rows)\n", "def told(rows):\n    return sum(rows, default=1)\n",
            "def more(a, b=1):\n    return a\n\n\ndef told(k):\n    return more()\n",
            "def more(a, b=1):\n    return a\n\n\ndef told(k):\n    return more(k, k, k)\n",
            "def more(a, b=1):\n    return a\n\n\ndef told(k):\n    return more(k, c=k)\n",
            "from moredone.other import told\n\n\ndef more(k):\n    return told(k, k)\n"),
    "L23": ("def told(rows):\n    k = zip(rows, rows)\n    return list(k)\n",
            "def told(rows):\n    for row in rows:\n        rows.append(row)\n    return rows\n",
            "def told(rows):\n    return rows.items()\n",
            "def told(rows):\n    for k, n in rows.items():\n        rows[k] = n\n",
            "def told(rows, more):\n    for k, n in zip(rows, more):\n        more.append(k)\n",
            "def told(rows):\n    return [rows.pop() for row in rows]\n"),
    "L24": ("def told(rows):\n    for row in set(rows):\n        return row\n", "def told(rows):\n    return set(rows)\n",
            "def told(rows):\n    return sorted({k for k in rows}, key=len)\n",
            "def told(rows):\n    k = set(rows)\n    return k\n", "def told(rows):\n    k = set()\n    k = set(rows)\n",
            "def told(rows):\n    k = {1}\n    for row in k:\n        pass\n",
            "def told(rows):\n    k = set(rows)\n\n    def more(row):\n        return row in k\n    return more(1)\n"),
    "L25": ("def told(rows):\n    rows.sort()\n", "def told(text):\n    return text.format_map(1)\n",
            "def told(k):\n    return k.real\n"),
    "L26": ("class Box:\n    def __init__(self):\n        self.items = 1\n",),
    "L28": ("class Box:\n    def __init__(self):\n        self.k = 1\n        return None\n",
            "class Box:\n    def __init__(self):\n        self.k = 1\n\n    def __len__(self):\n        return self.k\n",
            "class Box:\n    def __init__(self):\n        self.k = []\n\n    def __eq__(self, other):\n"
            "        self.k.append(other)\n        return True\n"),
    "L27": ("A = 'a % b'\n", "A = '\\x41'\n", "def told(k, n):\n    return k ** n\n", "A = '__odd__'\n"),
}
FINE = (
    "", "A = (1, 'a', None)\nB = {'a': (1, -2)}\n",
    "from moredone.other import told\n\n\ndef more(rows):\n    '''Any more % of it.'''\n    return told(sorted(set(rows)))\n",
    "class Box:\n    def __init__(self, k):\n        self.k = k\n\n    def __or__(self, other):\n        return other.k\n"
    "\n    @property\n    def size(self):\n        return self.k ** 2\n",
    "class Bad(ValueError):\n    pass\n\n\ndef told(k):\n    try:\n        return max([1, k], key=abs)\n    except Bad:\n"
    "        raise Bad(1)\n",
    "def told(rows):\n    k = set(rows)\n    k.add(1)\n    return [row for row in rows if row in k] or sorted(k)\n",
    "class Box:\n    def __init__(self):\n        self.k = []\n\n    def __len__(self):\n        return len(self.k)\n"
    "\n    def __eq__(self, other):\n        return isinstance(other, Box) and self.k == other.k\n"
    "\n    def __getitem__(self, at):\n        return self.k[at]\n"
    "\n    def __iter__(self):\n        raise TypeError('k')\n",
    "from math import gcd\n\n\ndef told(rows):\n    for k, n in list(rows.items()):\n        rows[k] = gcd(k, n)\n",
    "def told(k):\n    return k\n\n\nA = {'a': told, 'b': (told, 1)}\n\n\ndef more(k, rows):\n    action = A[k]\n"
    "    return action(*rows)\n",
    "def more(a, b=1):\n    return a\n\n\ndef less(k):\n    return more(k) + more(k, k) + more(b=k, a=k) + more(k, b=k)\n",
    "def less(rows):\n    def more(row):\n        return row + 1\n\n    return [more(row) for row in rows]\n",
    "def told(rows):\n    for at, row in enumerate(rows):\n        if row is None or isinstance(row, (int, str)):\n"
    "            return f'{at} of {len(rows)}'\n    return [k for k in range(3)]\n",
)


def found_in(text, name="box.py"):
    with tempfile.TemporaryDirectory() as above:
        folder = os.path.join(above, "moredone")
        os.mkdir(folder)
        for file, content in (("__init__.py", ""), ("other.py", "def told(rows):\n    return rows\n"), (name, text)):
            with open(os.path.join(folder, file), "w", encoding="utf-8") as made:
                made.write(content)
        return [line.split(": ", 1)[1] for line in CHECK.check(folder)]


class Language(unittest.TestCase):
    def test_the_package(self):
        self.assertEqual(CHECK.check(os.path.join(TOP, "moredone")), [])

    def test_what_breaks_a_rule_is_found(self):
        for rule, texts in BROKEN.items():
            for text in texts:
                rules = [part for line in found_in(text) for part in line.split(" ")[0].split("/")]
                with self.subTest(rule=rule, text=text):
                    self.assertIn(rule, rules)

    def test_what_breaks_none_is_not(self):
        for text in FINE:
            self.assertEqual(found_in(text), [], text)

    def test_files(self):
        for name in ("Box.py", "tests.py", "test_box.py", "site.py", "len.py", "box.txt", "law_box.py", "enum.py"):
            self.assertTrue(any(line.startswith("L1/L14") for line in found_in("", name)), name)

    def test_files_that_import_from_each_other(self):
        text = "from moredone.box import told\n\n\ndef told(rows):\n    return rows\n"
        self.assertTrue(any(line.startswith("L16") for line in found_in(text)))


if __name__ == "__main__":
    unittest.main()
