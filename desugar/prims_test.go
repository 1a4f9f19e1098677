package desugar_test

import (
	"testing"

	"teasel/api"
	"teasel/desugar"
)

// Each name of Prim, with the right number of arguments, fewer and more.
func TestPrims(t *testing.T) {
	for _, c := range []struct {
		e    string
		want api.Outcome
	}{
		{"primAdd 3 4", done(7)},
		{"primAdd 9223372036854775807 1", done(-1 << 63)},
		{"primSub 3 4", done(-1)},
		{"primMul 3 4", done(12)},
		{"primQuot (0 - 7) 2", done(-3)},
		{"primRem (0 - 7) 2", done(-1)},
		{"primQuot 1 0", failed},
		{"primRem 1 0", failed},
		{"primQuot (0 - 9223372036854775807 - 1) (0 - 1)", done(-1 << 63)},
		{"primRem (0 - 9223372036854775807 - 1) (0 - 1)", done(0)},
		{"truth (primEq 3 3) (primEq 3 4) (primEq 4 3)", done(100)},
		{"truth (primLt 3 3) (primLt 3 4) (primLt 4 3)", done(10)},
		{"truth (primLe 3 3) (primLe 3 4) (primLe 4 3)", done(110)},
		{"primSeq 1 2", done(2)},
		{"primSeq primRaise 2", failed},
		{"primSeq 1 primRaise", failed},
		{"primRaise", failed},
		{"primRaise 1 2", failed},
		{"primSeq (primAdd primRaise) 1", done(1)},
		// fewer arguments
		{"sum (map (primAdd 3) [1, 2])", done(9)},
		{"sum (map (primSub 3) [1, 2])", done(3)},
		{"sum (map (primSeq 3) [1, 2])", done(3)},
		{"foldr primMul 1 [2, 3, 4]", done(24)},
		{"length (filter (primLt 3) [2, 3, 4])", done(1)},
		{"apply (primSeq 1) 2", done(2)},
		{"apply (apply primSeq 1) 2", done(2)},
		{"primSeq primAdd 1", done(1)},
		{"primSeq (primBind primGet) 1", done(1)},
		{"primSeq (primBind primRaise primRaise) 1", done(1)},
		{"primSeq (primReturn primRaise) 1", done(1)},
		{"primSeq (primPut primRaise) 1", done(1)},
		{"primSeq primReturn (primSeq primPut (primSeq primGet 1))", done(1)},
		// more of them
		{"primSeq 1 primAdd 2 3", done(5)},
		{"primSeq 1 (primSeq 2) 3", done(3)},
		{"(if primEq 1 1 then primSub else primAdd) 5 3", done(2)},
	} {
		wantRun(t, "", c.want, "import Prim\nmain = return ("+c.e+")\napply f x = f x\ntruth a b c = one a * 100 + one b * 10 + one c\none True = 1\none False = 0")
	}
}

// The effects of an IO, in their order.
func TestActions(t *testing.T) {
	for _, c := range []struct {
		main, input string
		want        api.Outcome
	}{
		{"primReturn 4", "", done(4)},
		{"primGet", "a", done('a')},
		{"primGet", "", done(-1)},
		{"primBind primGet (\\a -> primBind primGet (\\b -> primReturn (a * 1000 + b)))", "ab", done('a'*1000 + 'b')},
		{"primBind primGet (\\a -> primBind primGet (\\b -> primReturn (a * 1000 + b)))", "a", done('a'*1000 - 1)},
		{"primBind (primPut 65) (\\() -> primReturn 1)", "", api.Outcome{Out: "A", End: api.Done, Code: 1}},
		{"primBind (primPut (65 + 512)) (\\u -> primReturn 1)", "", api.Outcome{Out: "A", End: api.Done, Code: 1}},
		{"primBind (primPut (0 - 1)) (\\u -> primReturn 1)", "", api.Outcome{Out: "\xff", End: api.Done, Code: 1}},
		{"putBytes \"hello\" >> return 2", "", api.Outcome{Out: "hello", End: api.Done, Code: 2}},
		{"putBytes \"ab\" >> putBytes \"cd\" >> return error", "", api.Outcome{Out: "abcd", End: api.Failed}},
		{"putBytes \"ab\" >> error >> putBytes \"cd\" >> return 1", "", api.Outcome{Out: "ab", End: api.Failed}},
		{"putBytes (97 : 98 : error) >> return 1", "", api.Outcome{Out: "ab", End: api.Failed}},
		{"putBytes (97 : 98 : loop) >> return 1", "", api.Outcome{Out: "ab", End: api.Running}},
		// one that is performed twice, and one that never is
		{"let { a = putByte 65 >> getByte } in a >>= \\x -> a >>= \\y -> return (x * 1000 + y)", "ab", api.Outcome{Out: "AA", End: api.Done, Code: 'a'*1000 + 'b'}},
		{"let { a = putByte 65 } in return 1", "", done(1)},
		{"const (return 1) (putByte 65)", "", done(1)},
		{"seq (putByte 65) (return 1)", "", done(1)},
		{"return (length [putByte 65, putByte 66])", "", done(2)},
		{"head [putByte 65 >> return 1, putByte 66 >> return 2]", "", api.Outcome{Out: "A", End: api.Done, Code: 1}},
		{"snd (putByte 65, return 2)", "", done(2)},
		{"sequence [getByte, return 5, putByte 66 >> return 6, getByte] >>= \\l -> return (sum l)", "12", api.Outcome{Out: "B", End: api.Done, Code: '1' + '2' + 11}},
		{"return 1 >>= \\x -> putByte 65 >> return (x + 1)", "", api.Outcome{Out: "A", End: api.Done, Code: 2}},
		{"(getByte >>= putByte) >> (getByte >>= putByte) >> return 0", "xy", api.Outcome{Out: "xy", End: api.Done}},
		{"getByte >>= (\\x -> (putByte x >> putByte x) >> return x)", "x", api.Outcome{Out: "xx", End: api.Done, Code: 'x'}},
		// in the order of statements
		{"do { putByte 65; x <- getByte; putByte x; let { y = x + 1; z = putByte 67 }; putByte y; z; z; return y }", "p", api.Outcome{Out: "ApqCC", End: api.Done, Code: 'q'}},
		{"do { c <- getByte; if c < 0 then return 0 else do { putByte c; main } }", "some text", wrote("some text")},
		{"do { 97 <- getByte; putByte 1; return 2 }", "a", api.Outcome{Out: "\x01", End: api.Done, Code: 2}},
		{"do { putByte 65; 97 <- getByte; putByte 1; return 2 }", "b", api.Outcome{Out: "A", End: api.Failed}},
		{"do { _ <- putByte 65; (x, y) <- return (3, putByte 66); y; return x }", "", api.Outcome{Out: "AB", End: api.Done, Code: 3}},
		{"fmap (+ 1) (putByte 65 >> return 1)", "", api.Outcome{Out: "A", End: api.Done, Code: 2}},
		{"loop", "", endless},
		{"loop >> putByte 65 >> return 1", "", endless},
		{"putByte 65 >> loop", "", api.Outcome{Out: "A", End: api.Running}},
	} {
		wantRun(t, c.input, c.want, "import Prim\nmain = "+c.main+"\nloop = loop\nsequence [] = return []\nsequence (x:xs) = do { y <- x; ys <- sequence xs; return (y : ys) }")
	}
}

// The names of Prim without a Prelude.
func TestWithoutPrelude(t *testing.T) {
	p, d := desugar.Core(tree(t, "module Main where\nimport Prim\nmain = primBind primGet f\nf x | primLt x 98 = primReturn (primAdd x 1)\nf x = primBind (primPut x) (\\u -> case u of { () -> primReturn (l R { l = 7 }) })\ndata R = R { l :: Int }\n"))
	if d != (api.Diag{}) {
		t.Fatal(d)
	}
	for input, want := range map[string]api.Outcome{"a": done('b'), "x": {Out: "x", End: api.Done, Code: 7}} {
		if got := run(p, input); got != want {
			t.Errorf("%q: got %+v, want %+v", input, got, want)
		}
	}
}

// The Prelude's own functions and instances.
func TestPrelude(t *testing.T) {
	for _, c := range []struct{ e, want string }{
		{"[]", "[]"}, {"0 - 12", "-12"}, {"(1, [True, False])", "(1,[True,False])"}, {"Just (Just 3)", "Just Just 3"}, {"(Nothing, [0, 10, 100])", "(Nothing,[0,10,100])"},
		{"take 3 (iterate (* 2) 1)", "[1,2,4]"}, {"zip [1, 2, 3] [True, False]", "[(1,True),(2,False)]"}, {"reverse [1, 2, 3]", "[3,2,1]"},
		{"filter (> 1) [3, 1, 2]", "[3,2]"}, {"[1 /= 2, 1 < 2, 1 > 2, 1 >= 2, 2 <= 1, not True]", "[True,True,False,False,False,False]"},
		{"([1, 2] <= [1, 3], [1, 3] <= [1, 2])", "(True,False)"}, {"(map (+ 1) . filter (/= 2)) $ [1, 2, 3]", "[2,4]"},
		{"fmap (+ 1) [1] ++ concat [[2], [3]]", "[2,2,3]"}, {"((tail [1, 2], foldl (-) 10 [1, 2]), foldr (-) 10 [1, 2])", "(([2],7),9)"},
		{"[Just 1 == Just 1, Nothing == Just 1, () == (), (1, 2) == (1, 3), [1] == [1, 2], True == False]", "[True,False,True,False,False,False]"},
		{"do { x <- [1, 2]; y <- [x, 10]; return (x, y) }", "[(1,1),(1,10),(2,2),(2,10)]"},
		{"seq 1 (snd (1, id 5))", "5"}, {"flip const 1 2", "2"}, {"rem 17 5 + quot 17 5 * 100", "302"},
	} {
		wantRun(t, "", wrote(c.want), "main = putBytes (show ("+c.e+")) >> return 0")
	}
}
