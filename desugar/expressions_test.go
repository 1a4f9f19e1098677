package desugar_test

import (
	"testing"

	"teasel/api"
)

// Each sort of expression, alone and within others.
func TestExpressions(t *testing.T) {
	for _, c := range []struct {
		e            string
		want         int
		declarations string
	}{
		// EVar, ECon
		{"x", 7, "x = 7"},
		{"count [(), ()]", 2, "count [] = 0\ncount (():xs) = 1 + count xs"},
		{"case Just 4 of { Just x -> x }", 4, ""},
		{"case map Just [5, 6] of { [Just a, Just b] -> a * 10 + b }", 56, ""},
		{"case foldr (:) [] [1, 2] of { [a, b] -> a * 10 + b }", 12, ""},
		{"case (,) 1 2 of { (a, b) -> a * 10 + b }", 12, ""},
		{"case zipped of { [(1, 3), (2, 4)] -> 1; _ -> 0 }", 1, "zipped = map2 (,) [1, 2] [3, 4]\nmap2 f (x:xs) (y:ys) = f x y : map2 f xs ys\nmap2 f a b = []"},
		{"case (,,) 1 2 3 of { (a, b, c) -> a * 100 + b * 10 + c }", 123, ""},
		{"case (,,) 1 2 of { f -> case f 3 of { (a, b, c) -> a * 100 + b * 10 + c } }", 123, ""},
		{"case T 1 of { f -> case f 2 of { T a b -> a * 10 + b } }", 12, "data T = T Int Int"},
		{"case 1 :+ 2 of { a :+ b -> a * 10 + b }", 12, "data T = (:+) Int Int"},
		{"case map (1 :+) [2] of { [a :+ b] -> a * 10 + b }", 12, "data T = (:+) Int Int"},
		{"case map (:+ 1) [2] of { [a :+ b] -> a * 10 + b }", 21, "data T = (:+) Int Int"},
		{"case (:+) of { f -> case f 1 2 of { a :+ b -> a * 10 + b } }", 12, "data T = (:+) Int Int"},
		{"case A `B` A of { B x y -> 3 }", 3, "data T = A | B T T"},
		// EInt
		{"0", 0, ""},
		{"9223372036854775807", 1<<63 - 1, ""},
		// EApp
		{"f 1 2", -1, "f x y = x - y"},
		{"(f 1) 2", -1, "f x y = x - y"},
		{"f 1 2 3", 0, "f x y = \\z -> x + y - z"},
		{"g (f 1)", 6, "f x y = x + y\ng h = h 5"},
		{"(if 1 == 1 then f else g) 7", 8, "f x = x + 1\ng x = x"},
		// ELam
		{"(\\x -> x + 1) 2", 3, ""},
		{"(\\x y -> x - y) 5 3", 2, ""},
		{"(\\x -> \\y -> x - y) 5 3", 2, ""},
		{"(\\(a, b) [c] -> a * 100 + b * 10 + c) (1, 2) [3]", 123, ""},
		{"(\\_ 2 -> 6) 1 2", 6, ""},
		{"(\\x@(Just y) z@_ -> case x of { Just w -> w + y + z }) (Just 2) 3", 7, ""},
		// ELet
		{"let { x = 1; y = x + 1 } in x + y", 3, ""},
		{"let { y = x + 1; x = 1 } in x + y", 3, ""},
		{"let { f 0 = 0; f n = n + f (n - 1) } in f 4", 10, ""},
		{"let { even 0 = True; even n = odd (n - 1); odd 0 = False; odd n = even (n - 1) } in if even 7 then 1 else 2", 2, ""},
		{"let x = 1 in let x = 2 in x", 2, ""},
		{"let { xs = 1 : ys; ys = 2 : xs } in sum (take 5 xs)", 7, ""},
		{"let {} in 4", 4, ""},
		// EIf
		{"if True then 1 else 2", 1, ""},
		{"if False then 1 else if 1 < 2 then 2 else 3", 2, ""},
		{"(if 1 < 2 then 3 else 4) + 1", 4, ""},
		// ECase
		{"case 5 of { 4 -> 1; 5 -> 2; _ -> 3 }", 2, ""},
		{"case x of { (y, _) -> y }", 8, "x = (8, 9)"},
		{"case [1, 2, 3] of { [] -> 0; [x] -> x; x : y : _ -> x * 10 + y }", 12, ""},
		{"case (case 1 of { 1 -> 2 }) of { 2 -> 3 }", 3, ""},
		{"case 1 of { x -> case 2 of { y -> x * 10 + y } }", 12, ""},
		// ELeft, ERight
		{"(5 -) 3", 2, ""},
		{"(subtract 5) 3", -2, "subtract = ((-) `flip1`)\nflip1 f x y = f y x"},
		{"(`f` 3) 5", 2, "f x y = x - y"},
		{"(5 `f`) 3", 2, "f x y = x - y"},
		{"sum (map (10 -) [1, 2]) * 100 + sum (map (+ 1) [1, 2])", 1705, ""},
		{"length (map (: [1]) [1, 2])", 2, ""},
		{"sum (concat (map (1 :) [[2], [3]]))", 7, ""},
		{"(* 2) ((+ 1) 3)", 8, ""},
		// ETup
		{"fst (1, True)", 1, ""},
		{"case (1, (2, 3), 4) of { (a, (b, c), d) -> a * 1000 + b * 100 + c * 10 + d }", 1234, ""},
		// EList
		{"length []", 0, ""},
		{"sum [1]", 1, ""},
		{"sum (map sum [[1], [], [2, 3]])", 6, ""},
		// EStr
		{"length \"\"", 0, ""},
		{"sum \"abc\"", 'a' + 'b' + 'c', ""},
		{"sum \"\\255\\0\\n\"", 265, ""},
		// EMake, EPut
		{"case C { a = 1, b = 2 } of { C x y -> x * 10 + y }", 12, "data T = C { a :: Int, b :: Int }"},
		{"case C { b = 1, a = 2 } of { C x y -> x * 10 + y }", 21, "data T = C { a :: Int, b :: Int }"},
		{"b (C { b = 5 })", 5, "data T = C { a :: Int, b :: Int }"},
		{"case C {} of { C _ _ -> 6 }", 6, "data T = C { a :: Int, b :: Int }"},
		{"case Just {} of { Just _ -> 6 }", 6, ""},
		{"case Nothing {} of { Nothing -> 6 }", 6, ""},
		{"b (x { b = 5 }) * 10 + a (x { b = 5 })", 51, "data T = C { a :: Int, b :: Int }\nx = C 1 2"},
		{"case (C 1 2 3) { c = 4, a = 5 } of { C x y z -> x * 100 + y * 10 + z }", 524, "data T = C { a :: Int, b :: Int, c :: Int } | D"},
		{"b (x { a = 3 } { b = 4 }) * 10 + a (x { b = 5 } { a = 6 })", 46, "data T = C { a :: Int, b :: Int }\nx = C 1 2"},
		{"a (a (C { a = C { a = 7 } }))", 7, "data T x = C { a :: x }"},
		// EDo
		{"case do { x <- Just 1; y <- Just 2; return (x + y) } of { Just z -> z; Nothing -> 0 }", 3, ""},
		{"case do { x <- Just 1; y <- Nothing; return (x + y) } of { Just z -> z; Nothing -> 0 }", 0, ""},
		{"sum (do { x <- [1, 2]; let { y = x * 10 }; z <- [y, x]; [z, 100] })", 433, ""},
		{"length (do { [1, 2]; [3, 4, 5] })", 6, ""},
		{"sum (do { (x, y) <- [(1, 2), (3, 4)]; [x * y] })", 14, ""},
		{"sum (do { [5] })", 5, ""},
		{"sum (do { let { f x = x + 1; (a, b) = (f 1, f 2) }; [a, b] })", 5, ""},
	} {
		wantNumber(t, c.want, c.e, c.declarations)
	}
}

// What fails in each sort of expression.
func TestExpressionsFail(t *testing.T) {
	for _, c := range []struct{ e, declarations string }{
		{"case 1 of { 2 -> 3 }", ""},
		{"case [] of { (x:_) -> x }", ""},
		{"(\\1 -> 2) 3", ""},
		{"(\\(Just x) [] -> x) (Just 1) [2]", ""},
		{"a (C { b = 5 })", "data T = C { a :: Int, b :: Int }"},
		{"a (C {})", "data T = C { a :: Int, b :: Int }"},
		{"a D", "data T = C { a :: Int } | D"},
		{"case D { a = 1 } of { x -> 1 + c x }", "data T = C { c :: Int } | D { a :: Int }"},
		{"case x { a = 1 } of { C _ -> 1; D -> 2 }", "data T = C { a :: Int } | D\nx = D"},
		{"case Just {} of { Just x -> x }", ""},
		{"sum (do { (Just x) <- [Just 1, Nothing]; [x] })", ""},
		{"case do { 1 <- Just 2; Just 3 } of { Just x -> x }", ""},
		{"quot 1 0", ""},
		{"rem 1 0", ""},
		{"let { Just x = Nothing } in x", ""},
		{"if error then 1 else 2", ""},
	} {
		wantRun(t, "", failed, "main = return ("+c.e+")\n"+c.declarations)
	}
}

// Functions of several clauses and patterns, with guards that go on with the next
// row or fail at the end.
func TestFunctions(t *testing.T) {
	const f = `
f 0 _ = 1
f n [] | n < 0 = 2
       | n < 10 = 3
f n (x:xs) | n == x = 4
           | y < 100 = 5
  where y = n + x
f 50 "ab" = 6
f _ [_, _] = 7
`
	for _, c := range []struct {
		e    string
		want api.Outcome
	}{
		{"f 0 error", done(1)},
		{"f (0 - 1) []", done(2)},
		{"f 5 []", done(3)},
		{"f 20 []", failed},
		{"f 5 [5, 6]", done(4)},
		{"f 5 [6]", done(5)},
		{"f 50 \"ab\"", done(6)},
		{"f 50 \"ac\"", done(7)},
		{"f 51 \"ab\"", done(7)},
		{"f 50 \"abc\"", failed},
		{"f 50 [97]", failed},
		{"f error []", failed},
		{"f 1 error", failed},
	} {
		wantRun(t, "", c.want, "main = return ("+c.e+")"+f)
	}
	for _, c := range []struct {
		e            string
		want         api.Outcome
		declarations string
	}{
		// guards without a pattern, of which one, several or none are True
		{"f", done(2), "f | 1 > 2 = 1 | 1 < 2 = 2 | True = 3"},
		{"f", failed, "f | 1 > 2 = 1 | 1 > 3 = 2"},
		{"f", done(5), "f | x > 2 = x | True = 3 where { x = y + 2; y = 3 }"},
		{"f 1", failed, "f x | x > 1 = 1"},
		{"f 1", done(9), "f x | x > 1 = 1\nf 1 = 9"},
		// of ECases: they go on within their own rows
		{"case 3 of { x | x > 5 -> 1 | x > 4 -> 2; 3 | False -> 3; y | y == 3 -> 4; _ -> 5 }", done(4), ""},
		{"case 3 of { x | x > 5 -> 1 }", failed, ""},
		{"f 1", failed, "f 1 = case 2 of { 3 -> 4 }\nf x = 5"},
		{"f 1", done(6), "f x | case x of { 2 -> True; y | y > 0 -> False } = 5\nf x = 6"},
		{"f 1", done(8), "f x | x > 5 = case x of { y | y > 9 -> 7 }\nf x = 8"},
		{"f 7", failed, "f x | x > 5 = case x of { y | y > 9 -> 7 }\nf x = 8"},
		// a where belongs to all guards of its row, and sees the patterns
		{"f (3, 4)", done(12), "f (a, b) | c > 100 = 1 | c > 10 = c where c = a * b\nf _ = 2"},
		{"f (1, 4)", done(2), "f (a, b) | c > 100 = 1 | c > 10 = c where c = a * b\nf _ = 2"},
		{"case (3, 4) of { (a, b) | c > 10 -> c where { c = a * b }; _ -> 0 }", done(12), ""},
		// rows behind one that always matches
		{"f 1", done(1), "f x = 1\nf 1 = 2"},
		{"f (1, 2)", done(3), "f (a, b) = a + b\nf (1, 2) = 2"},
		// as many arguments as there are patterns
		{"case f 1 of { g -> 5 }", done(5), "f 2 x = x"},
		{"f 1 2", failed, "f 2 x = x"},
		{"3 `f` 4", done(7), "x `f` y = x + y"},
		{"3 <+> 4", done(1), "x <+> y | x > y = 0\n3 <+> y = 1"},
	} {
		wantRun(t, "", c.want, "main = return ("+c.e+")\n"+c.declarations)
	}
}

// A DPat's DRhs is evaluated when one of its variables is needed, and once.
func TestDPats(t *testing.T) {
	for _, c := range []struct {
		e            string
		want         api.Outcome
		declarations string
	}{
		{"x", done(1), "(x, y) = (1, 2)"},
		{"x * 10 + y", done(12), "(x, y) = (1, 2)"},
		{"a * 1000 + b * 100 + c * 10 + length d", done(1231), "(a, [b, c], d@(_:_)) = (1, [2, 3], [4])"},
		{"x", done(5), "Just x = Just 5"},
		{"x", failed, "Just x = Nothing"},
		{"3", done(3), "Just x = Nothing"},
		{"3", done(3), "(x, y) = error"},
		{"3", done(3), "1 = 2"},
		{"3", done(3), "_ = error"},
		{"length [x, y]", done(2), "(x, y) = error"},
		{"y", failed, "(x, 1, y) = (1, 2, 3)"},
		{"fst (y, x)", done(2), "(x, y) = (error, 2)"},
		{"let { (x, y) = (y + 1, 5) } in x", done(6), ""},
		{"let { (x : xs) = 1 : map (* 2) (x : xs) } in sum (take 3 xs)", done(14), ""},
		{"let { (f, g) = (\\x -> if x == 0 then 0 else g (x - 1), \\x -> f x + 1) } in f 5", done(5), ""},
		{"let { [a, b] | False = [1, 2] | c = [3, 4] where { c = True } } in a * 10 + b", done(34), ""},
		{"let { [a, b] | False = [1, 2] } in a", failed, ""},
		{"f 3", done(9), "f x = y * y where { (y, 1) = (x, 1) }"},
		{"f 3", failed, "f x = y * y where { (y, 1) = (x, 2) }"},
		{"let { x@y = 3 } in x + y", done(6), ""},
		{"let { (x, y) | x > 1 = (1, 2) | True = (3, 4) } in x", endless, ""},
		{"let { ((\"ab\", x), (\"cd\", y)) = f 1 } in x * 10 + y", done(23), "f x = ((\"ab\", 2), (\"cd\", 3))"},
	} {
		wantRun(t, "", c.want, "main = return ("+c.e+")\n"+c.declarations)
	}
	// once for all of them, whatever the runs' number of steps
	slow := "count 0 = 0\ncount n = 1 + count (n - 1)\n"
	once := slow + "main = return (x + y)\n(x, y) = (n, n) where n = count 1000\n"
	many := slow + "main = return (sum (map (\\i -> x + y + z) (take 500 (iterate (+ 1) 0))))\n[x, y, z] = [n, n, n] where n = count 1000\n"
	wantRun(t, "", done(2000), once)
	wantRun(t, "", done(500*3000), many)
}
