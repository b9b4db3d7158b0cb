"""Programs, each with numbers for its main."""

from speakmill.numbers import GREATEST

# Every form of a term, with answers of every kind, by numbers from none to three.
TEXTS = (
    ("def main() = 7", []),
    ("def main() = yes", []),
    ("def main() = []", []),
    ("def main(a) = a", [-4]),
    ("def main(a, b) = (a + b) * (a - b) / b", [9, 2]),
    ("def main(a, b) = (a < b) : (a = b) : not (b < a) : []", [9, 2]),
    ("def main(a) = head (1 : a : []) : tail (2 : a : [])", [3]),
    ("def main(a) = if empty (a : []) then 1 else if empty [] then 2 else 3", [3]),
    ("def main(a) = let x = a : [] in let y = 1 : x in let x = y in tail (head (x : []))", [3]),
    ("def main(a) = (fn x => fn y => x : y : a : []) ! 1 ! 2", [3]),
    ("def main(a) = (1 : a : []) : [] : (2 : []) : []", [3]),
    ("def main(n) = rev(upto(n), []) def upto(n) = if n < 1 then [] else n : upto(n - 1) "
     "def rev(x, y) = if empty x then y else rev(tail x, head x : y)", [9]),
    ("def main(n) = each(fn x => x * n, upto(n)) def upto(n) = if n < 1 then [] else n : upto(n - 1) "
     "def each(f, x) = if empty x then [] else f ! (head x) : each(f, tail x)", [8]),
    ("def main(n) = fold(n, 0 : []) def fold(n, x) = if n < 1 then x else fold(n - 1, ((fn y => head y + n) ! x) : x)",
     [12]),
    ("def main(n) = let f = (fn x => x + n) : (fn x => x * n) : [] in (head f) ! 5 : (head tail f) ! 5 : []", [4]),
    ("def main(a, b, c) = a / (b - c)", [1, 2, 2]),
    ("def main(a) = (1 : []) : (a * a : []) : []", [GREATEST]),
    ("def main(a) = let x = a : [] in head tail x", [1]),
    ("def main(a) = let x = a : [] in tail tail x", [1]),
    ("def main(a) = f(a : []) def f(x) = f(1 : x)", [1]),
    ("def main(a) = (fn f => f ! a) ! (fn x => main(x))", [1]),
)
