package desugar_test

import (
	"testing"

	"teasel/api"
)

// What is evaluated, and what is not: arguments, fields and bindings that fail or
// do not end.
func TestNotNeeded(t *testing.T) {
	for _, bad := range []string{"error", "loop", "head []", "fst (snd loop)"} {
		for _, e := range []string{
			"const 1 (BAD)",
			"(\\x -> 1) (BAD)",
			"(\\x y -> x) 1 (BAD)",
			"fst (1, BAD)",
			"snd (BAD, 1)",
			"let { x = BAD } in 1",
			"let { (x, y) = BAD } in 1",
			"let { Just x = BAD } in 1",
			"let { f x = BAD } in 1",
			"if True then 1 else BAD",
			"if False then BAD else 1",
			"case Just (BAD) of { Just x -> 1 }",
			"case 1 of { 1 -> 1; _ -> BAD }",
			"case BAD of { x -> 1 }",
			"case BAD of { _ -> 1 }",
			"case (1, BAD) of { (x, y) | x == 1 -> 1 | y == 2 -> 2 }",
			"length [BAD]",
			"length ((BAD) : [])",
			"length (map (+ 1) [BAD]) ",
			"length [(BAD, 1)]",
			"f 1 (BAD)",
			"f (1) (BAD) - length (take 0 [BAD])",
			"l (R { l = 1, m = BAD })",
			"l ((R 2 3) { l = 1, m = BAD })",
			"l ((R (BAD) 3) { l = 1 })",
			"case (BAD) { l = 2 } of { x -> 1 }",
			"case (+ (BAD)) of { g -> 1 }",
			"case ((BAD) +) of { g -> 1 }",
			"seq (\\x -> x + BAD) 1",
			"seq (Just (BAD)) 1",
			"seq [BAD] 1",
			"seq (return2 (BAD)) 1",
			"seq (putByte (BAD)) 1",
			"seq (primBindLike (BAD)) 1",
			"seq (BAD, BAD) 1",
			"seq (R {}) 1",
			"if True || (BAD) == 1 then 1 else 2",
			"length (show []) - 1 + (case False && (BAD) == 1 of { True -> 1; False -> 0 })",
			"head (take 1 (iterate (+ (BAD)) 1))",
			"k (BAD) 1",
		} {
			text := "loop = loop\nf 1 _ = 1\nf x y = y\nk x | True = \\y -> y | x > 1 = \\y -> 2\ndata R = R { l :: Int, m :: Int }\nreturn2 x = if True then return x else getByte\nprimBindLike x = getByte >>= \\y -> x\n"
			wantRun(t, "", done(1), "main = return ("+replaced(e, bad)+")\n"+text)
		}
	}
}

// What is evaluated: each of these fails, or does not end.
func TestNeeded(t *testing.T) {
	for _, e := range []string{
		"BAD",
		"(BAD) + 1",
		"1 - (BAD)",
		"if (BAD) == 1 then 1 else 1",
		"case BAD of { 1 -> 1; _ -> 1 }",
		"case (BAD, 1) of { (1, _) -> 1; _ -> 2 }",
		"case [BAD] of { [] -> 1; [2] -> 2; _ -> 3 }",
		"case 1 of { x | (BAD) == 1 -> 1; _ -> 1 }",
		"f (BAD) 1",
		"f 2 (BAD)",
		"seq (BAD) 1",
		"l (R { l = BAD, m = 1 })",
		"l (fst (BAD, 1)) { m = 1 }",
		"sum [1, BAD]",
		"length (1 : fst (BAD, 1))",
		"length (show (Just (BAD)))",
		"if (BAD) == 1 then 1 else 2",
		"let { Just x = BAD } in x",
		"let { (x, 1) = (1, BAD) } in x",
	} {
		for bad, want := range map[string]api.Outcome{"error": failed, "loop": endless, "(if loop == 1 then error else loop)": endless} {
			text := "loop = loop\nf 1 x = 1\nf x 1 = 2\nf x y = 3\ndata R = R { l :: Int, m :: Int }\n"
			wantRun(t, "", want, "main = return ("+replaced(e, bad)+")\n"+text)
		}
	}
}

// Patterns look at values from left to right, and only as deeply as is needed:
// what stands behind where a row stops is not looked at. That holds for texts too.
func TestPatternsInOrder(t *testing.T) {
	const f = `
data T = T [Int] Int [Int] | S { a :: [Int], b :: [Int] }
f 1 2 = 1
f 1 x = 2
f x 3 = 3
f x y = 4
g "ab" 1 = 1
g (97:_) 2 = 2
g (98 : _) _ = 3
g _ _ = 4
h ("ab", 1, [x]) = 1
h (97 : _, 2, "x") = 2
h _ = 3
k [("ab", 1), (x, y)] = 1
k [] = 2
k (("cd", _) : _) = 3
k _ = 4
m (T "ab" 1 "cd") = 1
m S { b = "ab", a = "cd" } = 2
m S { b = [] } = 3
m (T _ n "") = n
m _ = 4
n "" = 0
n "\0" = 1
n "\0\255" = 2
n x@"abc" = length x
n (97 : "b") = 4
n _ = 5
`
	for _, c := range []struct {
		e    string
		want api.Outcome
	}{
		{"f 1 2", done(1)}, {"f 1 5", done(2)}, {"f 2 3", done(3)}, {"f 2 4", done(4)}, {"f error 1", failed}, {"f 1 error", failed}, {"f 2 error", failed},
		{"g \"ab\" 1", done(1)}, {"g \"abc\" 3", done(4)}, {"g \"abc\" error", failed}, {"g \"b\" error", done(3)}, {"g [98, error] error", done(3)},
		{"g \"ab\" error", failed}, {"g (97 : error) 1", failed}, {"g (98 : error) error", done(3)}, {"g [97, 99, error] 3", done(4)}, {"g [97, 98] 7", done(4)},
		{"h (\"ab\", 1, [error])", done(1)}, {"h (\"ab\", 2, \"x\")", done(2)}, {"h (\"ac\", 2, \"x\")", done(2)}, {"h (\"b\", error, error)", done(3)},
		{"h ([97, 98, 99], 2, [120])", done(2)}, {"h ([97, error], 1, [])", failed}, {"h (\"ac\", 2, \"xy\")", done(3)}, {"h (\"ac\", 2, 121 : error)", done(3)},
		{"k [(\"ab\", 1), error]", failed}, {"k [(\"ab\", 1), (error, error)]", done(1)}, {"k []", done(2)}, {"k ((\"cd\", error) : error)", done(3)},
		{"k ((\"ce\", error) : error)", done(4)}, {"k ((\"ab\", 1) : error)", failed}, {"k ((\"ab\", 2) : error)", done(4)}, {"k [(\"ab\", 1)]", done(4)},
		{"m (T \"ab\" 1 \"cd\")", done(1)}, {"m (T \"ab\" 7 [])", done(7)}, {"m (T \"abc\" 7 [])", done(7)}, {"m (T \"ab\" 1 \"ce\")", done(4)},
		{"m (T \"ab\" 1 (99 : error))", failed}, {"m (S \"cd\" \"ab\")", done(2)}, {"m (S error \"\")", done(3)}, {"m (S error \"b\")", done(4)}, {"m (S error \"ab\")", failed},
		{"m (T (98 : error) 5 [])", done(5)},
		{"n \"\"", done(0)}, {"n [0]", done(1)}, {"n [0, 255]", done(2)}, {"n [0, 255, 0]", done(5)}, {"n [256]", done(5)}, {"n \"abc\"", done(3)}, {"n \"ab\"", done(4)},
		{"n \"abd\"", done(5)}, {"n (97 : 98 : error)", failed}, {"n (99 : error)", done(5)},
	} {
		wantRun(t, "", c.want, "main = return ("+c.e+")"+f)
	}
}

// What is bound is evaluated once, however often it is needed: these runs would
// take far too many steps otherwise.
func TestOnce(t *testing.T) {
	for _, e := range []string{
		"let { a = 1 + 0; b = a + a; c = b + b; d = c + c; e = d + d; f = e + e; g = f + f; h = g + g; i = h + h; j = i + i; k = j + j; l = k + k; m = l + l; n = m + m; o = n + n; p = o + o; q = p + p; r = q + q; s = r + r; t = s + s; u = t + t; v = u + u; w = v + v } in w",
		"twice (twice (twice (twice (twice (twice (twice (twice (twice (twice (twice (twice (twice (twice (twice (twice (twice (twice (twice (twice (twice (twice 1)))))))))))))))))))))",
		"both (both (both (both (both (both (both (both (both (both (both (both (both (both (both (both (both (both (both (both (both (both 1)))))))))))))))))))))",
		"last 22",
	} {
		wantNumber(t, 1<<22, e, "twice x = x + x", "both x = case (x, x) of { (a, b) -> a + b }", "last n = head (reverse (take (n + 1) (iterate twice 1)))")
	}
	// a constant at the top, a field of a dictionary, and a partly applied function
	wantNumber(t, 100*1000, "sum (map (\\x -> slow) (take 100 (iterate id 1)))", "slow = length (take 1000 (iterate id 1))")
	wantNumber(t, 300*1000, "sum (map (\\x -> slow + x) (take 300 (iterate id 0)))", "class C a where { slow :: a }", "instance C Int where { slow = length (take 1000 (iterate id 1)) }")
	wantNumber(t, 300*1000, "sum (map (plus (length (take 1000 (iterate id 1)))) (take 300 (iterate id 0)))", "plus x y = x + y")
}
