package tree_test

import (
	"math"
	"regexp"
	"slices"
	"strings"
	"testing"

	"krait/api"
	"krait/tree"
)

func wantRight(t *testing.T, root spec, want bool) {
	t.Helper()
	if got := tree.Right(lay(root)); got != want {
		t.Errorf("%+v: %v", root, got)
	}
}

func TestP3_1Example(t *testing.T) {
	if !tree.Right(example()) {
		t.Error("the example must be right")
	}
}

// want is what the chapter says of a kind: which S it has (and N 0, if nothing else is said), and which kids, each by a letter of letters.
type want struct {
	op   int
	s    func(s string) bool
	kids *regexp.Regexp
}

func isEmpty(s string) bool { return s == "" }

func isShort(s string) bool { return len(s) <= 65536 }

func isName(s string) bool {
	return regexp.MustCompile(`^[A-Za-z_][A-Za-z_0-9]*$`).MatchString(s) && !slices.Contains(keywords(), s)
}

func isNameOrEmpty(s string) bool { return s == "" || isName(s) }

func areNames(s string) bool { return !slices.ContainsFunc(strings.Split(s, " "), isNoName) }

func isNoName(s string) bool { return !isName(s) }

func isArithmetic(s string) bool {
	return slices.Contains([]string{"+", "-", "*", "//", "%", "**"}, s)
}

func isComparison(s string) bool {
	return slices.Contains([]string{"==", "!=", "<", "<=", ">", ">=", "in", "not in", "is", "is not"}, s)
}

func keywords() []string {
	return strings.Fields("None True False and or not if else elif while for in is break continue pass def class return raise try except as finally global nonlocal del assert yield lambda")
}

// wants are the chapter's table: X stands for any expression, T for a target, W for a wide one, S for a statement, H for a handler with a class.
func wants() []want {
	classes := strings.NewReplacer("X", "[nailotue]", "W", "[nait]", "T", "[nai]", "S", "[xgyr]", "H", "[HI]")
	kids := func(row string) *regexp.Regexp { return regexp.MustCompile("^(" + classes.Replace(row) + ")$") }
	return []want{
		{api.ONone, isEmpty, kids("")}, {api.OTrue, isEmpty, kids("")}, {api.OFalse, isEmpty, kids("")},
		{api.OInt, isEmpty, kids("")},
		{api.OStr, isShort, kids("")},
		{api.OName, isName, kids("")},
		{api.OList, isEmpty, kids("X*")}, {api.OTuple, isEmpty, kids("X*")},
		{api.ODict, isEmpty, kids("(XX)*")},
		{api.ONeg, isEmpty, kids("X")}, {api.ONot, isEmpty, kids("X")},
		{api.OBin, isArithmetic, kids("XX")},
		{api.OCmp, isComparison, kids("XX")},
		{api.OAnd, isEmpty, kids("XX")}, {api.OOr, isEmpty, kids("XX")}, {api.OIndex, isEmpty, kids("XX")},
		{api.OIf, isEmpty, kids("XXX")}, {api.OSlice, isEmpty, kids("XXX")},
		{api.OCall, isEmpty, kids("XX*")},
		{api.OAttr, isName, kids("X")},
		{api.OLambda, isEmpty, kids("p*P*X")},
		{api.OParam, isName, kids("X?")},
		{api.SModule, isEmpty, kids("S*")},
		{api.SBlock, isEmpty, kids("SS*")},
		{api.SExpr, isEmpty, kids("X")}, {api.SYield, isEmpty, kids("X")},
		{api.SAssign, isEmpty, kids("WX")},
		{api.SAug, isArithmetic, kids("TX")},
		{api.SIf, isEmpty, kids("XBB?")},
		{api.SWhile, isEmpty, kids("XB")},
		{api.SFor, isEmpty, kids("WXB")},
		{api.SBreak, isEmpty, kids("")}, {api.SContinue, isEmpty, kids("")}, {api.SPass, isEmpty, kids("")},
		{api.SDef, isName, kids("p*P*B")},
		{api.SClass, isName, kids("X*B")},
		{api.SReturn, isEmpty, kids("X?")}, {api.SRaise, isEmpty, kids("X?")},
		{api.STry, isEmpty, kids("B(H+h?F?|hF?|F)")},
		{api.SHandler, isNameOrEmpty, kids("XB")}, {api.SHandler, isEmpty, kids("B")},
		{api.SFinal, isEmpty, kids("B")},
		{api.SGlobal, areNames, kids("")}, {api.SNonlocal, areNames, kids("")},
		{api.SDel, isEmpty, kids("T")},
		{api.SAssert, isEmpty, kids("XX?")},
	}
}

// lets tells whether the chapter lets a node of these kids by.
func lets(l []want, op int, s, row string) bool {
	return slices.ContainsFunc(l, func(w want) bool { return w.op == op && w.s(s) && w.kids.MatchString(row) })
}

// sample is an S that a kind may have.
func sample(w want) string {
	texts := []string{"", "a", "+", "=="}
	return texts[slices.IndexFunc(texts, w.s)]
}

// rowOf is a row of kids that a kind may have.
func rowOf(w want) string {
	rows := []string{"", "n", "nn", "nnn", "B", "nB", "nnB", "x", "BF"}
	return rows[slices.IndexFunc(rows, w.kids.MatchString)]
}

// letters are kids of all kinds that a row tells apart.
func letters() map[byte]spec {
	return map[byte]spec{
		'n': name("a"),
		'a': node(api.OAttr, "b", name("a")),
		'i': node(api.OIndex, "", name("a"), integer(1)),
		'l': node(api.OLambda, "", param("a", integer(1)), name("a")),
		'o': node(api.ONone, ""),
		't': node(api.OTuple, "", name("a"), node(api.OAttr, "b", name("a"))),
		'u': node(api.OTuple, "", name("a"), integer(1)),
		'e': node(api.OTuple, ""),
		'p': param("a"),
		'P': param("a", integer(1)),
		'B': block(pass()),
		'x': expression(name("a")),
		'g': node(api.SGlobal, "a"),
		'y': node(api.SYield, "", name("a")),
		'r': node(api.STry, "", block(pass()), node(api.SFinal, "", block(pass()))),
		'H': node(api.SHandler, "e", name("a"), block(pass())),
		'I': node(api.SHandler, "", name("a"), block(pass())),
		'h': node(api.SHandler, "", block(pass())),
		'F': node(api.SFinal, "", block(pass())),
		'M': module(),
	}
}

// withKids is a node with kids by their letters.
func withKids(op int, s, row string) spec {
	known := letters()
	x := node(op, s)
	for i := range len(row) {
		x.kids = append(x.kids, known[row[i]])
	}
	return x
}

// around is a right module if the node is right where it stands in it.
func around(x spec) spec {
	switch {
	case x.op == api.SModule:
		return x
	case x.op == api.SBlock:
		return module(node(api.SWhile, "", name("a"), x))
	case x.op == api.SHandler, x.op == api.SFinal:
		return module(node(api.STry, "", block(pass()), x))
	case x.op == api.OParam:
		return module(expression(node(api.OLambda, "", x, name("a"))))
	case x.op < api.OParam:
		return module(expression(x))
	}
	return module(x)
}

func TestP3_1EachRowOfKids(t *testing.T) {
	var all []string
	for k := range letters() {
		all = append(all, string(k))
	}
	slices.Sort(all)
	l := wants()
	for _, w := range l {
		hold := func(row string) {
			x := withKids(w.op, sample(w), row)
			if got := tree.Right(lay(around(x))); got != lets(l, w.op, x.s, row) {
				t.Errorf("%d with kids %q: %v", w.op, row, got)
			}
		}
		eachText(all, 2, hold)
		eachText([]string{"n", "u", "p", "P", "B", "x", "H", "h", "F"}, 3, hold)
	}
}

func TestP3_1EachLongerRowOfKids(t *testing.T) {
	l := wants()
	hold := func(op int, s string, pieces string) {
		eachText(strings.Split(pieces, ""), 5, func(row string) {
			if got := tree.Right(lay(around(withKids(op, s, row)))); got != lets(l, op, s, row) {
				t.Errorf("%d with kids %q: %v", op, row, got)
			}
		})
	}
	hold(api.OLambda, "", "pPn")
	hold(api.SDef, "f", "pPB")
	hold(api.STry, "", "BHhF")
	hold(api.ODict, "", "np")
	hold(api.SClass, "C", "nBx")
	hold(api.SIf, "", "nB")
	hold(api.OCall, "", "np")
}

// eachText goes through all texts of at most that many of the pieces.
func eachText(pieces []string, most int, look func(s string)) {
	var goOn func(s string, more int)
	goOn = func(s string, more int) {
		look(s)
		for _, p := range pieces {
			if more > 0 {
				goOn(s+p, more-1)
			}
		}
	}
	goOn("", most)
}

func TestP3_1LongRows(t *testing.T) {
	for _, x := range []struct {
		op     int
		s, row string
		want   bool
	}{
		{api.OList, "", strings.Repeat("n", 5000), true},
		{api.OTuple, "", strings.Repeat("n", 5000) + "p", false},
		{api.ODict, "", strings.Repeat("nu", 5000), true},
		{api.ODict, "", strings.Repeat("nu", 5000) + "n", false},
		{api.OCall, "", strings.Repeat("n", 5000), true},
		{api.OLambda, "", strings.Repeat("p", 3000) + strings.Repeat("P", 3000) + "n", true},
		{api.OLambda, "", strings.Repeat("p", 3000) + strings.Repeat("P", 3000) + "pn", false},
		{api.SDef, "f", strings.Repeat("p", 3000) + strings.Repeat("P", 3000) + "B", true},
		{api.SDef, "f", strings.Repeat("p", 3000) + "PpP" + strings.Repeat("P", 3000) + "B", false},
		{api.SDef, "f", "ppPPB", true}, {api.SDef, "f", "ppPPpB", false}, {api.SDef, "f", "ppPPn", false}, {api.SDef, "f", "PPpPPB", false},
		{api.STry, "", "BHIHIhF", true}, {api.STry, "", "BHIHIF", true}, {api.STry, "", "BHIHIh", true}, {api.STry, "", "BhHIF", false}, {api.STry, "", "BHhIF", false}, {api.STry, "", "BHIhhF", false}, {api.STry, "", "BHIFF", false}, {api.STry, "", "BHIFh", false}, {api.STry, "", "BBHIF", false},
		{api.SModule, "", strings.Repeat("xgyr", 5000), true},
		{api.SModule, "", strings.Repeat("xgyr", 5000) + "B", false},
		{api.SBlock, "", strings.Repeat("xgyr", 5000), true},
		{api.SClass, "C", strings.Repeat("n", 5000) + "B", true},
	} {
		if got := tree.Right(lay(around(withKids(x.op, x.s, x.row)))); got != x.want {
			t.Errorf("%d with %.20q: %v", x.op, x.row, got)
		}
	}
}

func TestP3_1EachText(t *testing.T) {
	texts := []string{"", "a", "_", "A9_z", "if", "None", "lambda", "If", "9", "9a", "a9", " ", "  ", "a ", " a", "a b", "a  b", "a b c", "a b c ", "a if", "if a", "a\tb", "a,b", "a, b", "a\n", "a-b", "é", "aé", "a\x00", "\x00", "\xff",
		"+", "-", "*", "//", "%", "**", "/", "***", "+ ", " +", "+=", "+-", "==", "!=", "<", "<=", ">", ">=", "in", "not in", "is", "is not", "not", "and", "or", "not  in", "notin", "in not", "not is", "is  not", "isnot", "is not in", " in", "in ", "=", "<>", "===", "not\tin",
		strings.Repeat("a", api.MaxText), strings.Repeat("a", api.MaxText+1), strings.Repeat("\xff", api.MaxText), strings.Repeat("\n", api.MaxText+1)}
	l := wants()
	for _, w := range l {
		row := rowOf(w)
		for _, s := range append(texts, keywords()...) {
			if got := tree.Right(lay(around(withKids(w.op, s, row)))); got != lets(l, w.op, s, row) {
				t.Errorf("%d with text %.20q (%d): %v", w.op, s, len(s), got)
			}
		}
	}
}

func TestP3_1EachNumber(t *testing.T) {
	for _, w := range wants() {
		for _, n := range []int64{0, 1, 2, math.MaxInt64, -1, math.MinInt64} {
			x := withKids(w.op, sample(w), rowOf(w))
			x.n = n
			if got, must := tree.Right(lay(around(x))), n == 0 || n > 0 && w.op == api.OInt; got != must {
				t.Errorf("%d with number %d: %v", w.op, n, got)
			}
		}
	}
}

func TestP3_1UnknownKinds(t *testing.T) {
	given := map[int]bool{}
	for _, w := range wants() {
		given[w.op] = true
	}
	for _, op := range []int{math.MinInt, math.MaxInt, 1 << 40} {
		wantRight(t, module(node(op, "")), false)
		wantRight(t, node(op, ""), false)
	}
	for op := -200; op < 300; op++ {
		if given[op] {
			continue
		}
		for _, x := range []spec{node(op, ""), node(op, "a"), node(op, "", name("a")), node(op, "", block(pass()))} {
			wantRight(t, module(x), false)
			wantRight(t, module(expression(x)), false)
			wantRight(t, module(node(api.STry, "", block(pass()), x)), false)
		}
	}
}

func TestP3_1TheRoot(t *testing.T) {
	if tree.Right(nil) || tree.Right(api.Tree{}) {
		t.Error("a tree without nodes is not right")
	}
	if !tree.Right(api.Tree{{Op: api.SModule}}) || !tree.Right(api.Tree{{Op: api.SModule, Kids: []int{}}}) {
		t.Error("a module may have no statement")
	}
	for _, w := range wants() {
		if w.op == api.SModule {
			continue
		}
		x := withKids(w.op, sample(w), rowOf(w))
		wantRight(t, x, false)
		wantRight(t, around(x), true)
	}
	wantRight(t, module(module()), false)
	wantRight(t, module(pass(), module(pass())), false)
	if tree.Right(api.Tree{{Op: api.SModule}, {Op: api.SModule}}) {
		t.Error("no other node may be a module")
	}
}

func TestP3_1EachNodeStandsOnce(t *testing.T) {
	tuple := func(kids ...int) api.Tree {
		return api.Tree{{Op: api.ONone}, {Op: api.OTrue}, {Op: api.OTuple, Kids: kids}, {Op: api.SExpr, Kids: []int{2}}, {Op: api.SModule, Kids: []int{3}}}
	}
	for _, row := range [][]int{{0, 1}, {1, 0}} {
		if !tree.Right(tuple(row...)) {
			t.Errorf("%v must be right", row)
		}
	}
	for _, row := range [][]int{nil, {0}, {1}, {0, 0}, {1, 1}, {0, 1, 0}, {0, 1, 1}, {0, 1, 2}, {0, 1, 3}, {0, 1, 4}, {0, 1, 5}, {0, 1, -1}, {-1, 0, 1}, {0, 2}, {0, 1, math.MinInt}, {0, 1, math.MaxInt}} {
		if tree.Right(tuple(row...)) {
			t.Errorf("%v can't be right", row)
		}
	}
	whole := example()
	for i := range whole {
		for _, kid := range []int{-1, 0, 1, 2, 3, 4, 5} {
			more := copied(whole)
			more[i].Kids = append(more[i].Kids, kid)
			if tree.Right(more) {
				t.Errorf("node %d has the kid %d too: can't be right", i, kid)
			}
		}
		for j := range whole[i].Kids {
			less := copied(whole)
			less[i].Kids = slices.Delete(less[i].Kids, j, j+1)
			if tree.Right(less) {
				t.Errorf("node %d lacks its kid %d: can't be right", i, j)
			}
		}
	}
	for _, left := range []api.Tree{append(api.Tree{{Op: api.ONone}}, whole...), append(api.Tree{{Op: api.SPass}}, api.Node{Op: api.SModule})} {
		if tree.Right(left) {
			t.Errorf("%v has a node that stands nowhere", left)
		}
	}
}

func TestP3_1KidsNeedNotStandInTheOrderOfNumbers(t *testing.T) {
	mixed := api.Tree{{Op: api.SPass}, {Op: api.OInt, N: 2}, {Op: api.OName, S: "a"}, {Op: api.OAttr, S: "b", Kids: []int{2}}, {Op: api.SAssign, Kids: []int{3, 1}}, {Op: api.SModule, Kids: []int{4, 0}}}
	if !tree.Right(mixed) {
		t.Error("only the order in the row of kids plays a part")
	}
	mixed[4].Kids = []int{1, 3}
	if tree.Right(mixed) {
		t.Error("an int is no target")
	}
}

func TestP3_1PlacesPlayNoPart(t *testing.T) {
	for _, at := range []int{0, -1, math.MinInt, math.MaxInt} {
		whole := example()
		for i := range whole {
			whole[i].At = at
		}
		if !tree.Right(whole) {
			t.Errorf("place %d", at)
		}
	}
}

func TestP3_1WideTargets(t *testing.T) {
	a, attr, index := name("a"), node(api.OAttr, "b", integer(1)), node(api.OIndex, "", integer(1), integer(2))
	tuple := func(kids ...spec) spec { return node(api.OTuple, "", kids...) }
	for _, x := range []struct {
		to   spec
		want bool
	}{
		{a, true}, {attr, true}, {index, true}, {tuple(a), true}, {tuple(attr), true}, {tuple(index), true}, {tuple(a, attr, index, a), true},
		{tuple(), false}, {tuple(integer(1)), false}, {tuple(a, integer(1)), false}, {tuple(integer(1), a), false}, {tuple(a, tuple(a)), false}, {tuple(tuple(a)), false}, {tuple(a, tuple()), false},
		{node(api.OList, "", a), false}, {node(api.OList, ""), false}, {node(api.OSlice, "", a, a, a), false}, {node(api.OCall, "", a), false}, {integer(1), false}, {node(api.ONone, ""), false}, {node(api.OStr, "a"), false},
	} {
		wantRight(t, module(node(api.SAssign, "", x.to, a)), x.want)
		wantRight(t, module(node(api.SFor, "", x.to, a, block(pass()))), x.want)
		single := x.want && x.to.op != api.OTuple
		wantRight(t, module(node(api.SAug, "+", x.to, a)), single)
		wantRight(t, module(node(api.SDel, "", x.to)), single)
	}
}

// deep is an expression of that Depth, made of others by wrap.
func deep(depth int, wrap func(spec) spec) spec {
	e := name("a")
	for range depth - 1 {
		e = wrap(e)
	}
	return e
}

func TestP3_1HowDeepExpressionsAre(t *testing.T) {
	a := name("a")
	for i, wrap := range []func(spec) spec{
		func(e spec) spec { return node(api.ONeg, "", e) },
		func(e spec) spec { return node(api.OBin, "+", e, a) },
		func(e spec) spec { return node(api.OBin, "+", a, e) },
		func(e spec) spec { return node(api.OList, "", a, e, a) },
		func(e spec) spec { return node(api.OTuple, "", e) },
		func(e spec) spec { return node(api.ODict, "", a, a, e, a) },
		func(e spec) spec { return node(api.OCall, "", e, a) },
		func(e spec) spec { return node(api.OCall, "", a, a, e) },
		func(e spec) spec { return node(api.OAttr, "b", e) },
		func(e spec) spec { return node(api.OIndex, "", e, a) },
		func(e spec) spec { return node(api.OIf, "", a, e, a) },
		func(e spec) spec { return node(api.OLambda, "", param("b"), e) },
	} {
		for depth := 38; depth <= 43; depth++ {
			e := deep(depth, wrap)
			want := depth <= api.MaxNest
			for j, s := range []spec{expression(e), node(api.SReturn, "", e), node(api.SAssert, "", a, e), node(api.SIf, "", e, block(pass())), node(api.SClass, "C", a, e, block(pass())), node(api.STry, "", block(pass()), node(api.SHandler, "", e, block(pass()))), node(api.SDef, "f", block(node(api.SYield, "", e)))} {
				if got := tree.Right(lay(module(s))); got != want {
					t.Errorf("wrap %d, depth %d, statement %d: %v", i, depth, j, got)
				}
			}
		}
	}
}

func TestP3_1HowDeepParametersAre(t *testing.T) {
	not := func(e spec) spec { return node(api.ONot, "", e) }
	for depth := 36; depth <= 42; depth++ {
		e := deep(depth, not)
		// A parameter is no expression: of a def it may be deeper than what stands in it; of a lambda it counts.
		wantRight(t, module(node(api.SDef, "f", param("a", e), block(pass()))), depth <= api.MaxNest)
		wantRight(t, module(expression(node(api.OLambda, "", param("a", e), name("a")))), depth+2 <= api.MaxNest)
		lambda := node(api.OLambda, "", param("b", e), name("a"))
		wantRight(t, module(node(api.SDef, "f", param("a", lambda), block(pass()))), depth+2 <= api.MaxNest)
	}
}

// nested is a statement with that many blocks within one another.
func nested(blocks int, wrap func(b spec) spec) spec {
	s := pass()
	for range blocks {
		s = wrap(block(s))
	}
	return s
}

func TestP3_1HowDeepBlocksAre(t *testing.T) {
	a := name("a")
	for i, wrap := range []func(b spec) spec{
		func(b spec) spec { return node(api.SWhile, "", a, b) },
		func(b spec) spec { return node(api.SFor, "", a, a, b) },
		func(b spec) spec { return node(api.SIf, "", a, b) },
		func(b spec) spec { return node(api.SIf, "", a, block(pass()), b) },
		func(b spec) spec { return node(api.SIf, "", a, b, block(pass())) },
		func(b spec) spec { return node(api.SDef, "f", b) },
		func(b spec) spec { return node(api.SClass, "C", b) },
		func(b spec) spec { return node(api.STry, "", b, node(api.SFinal, "", block(pass()))) },
		func(b spec) spec { return node(api.STry, "", block(pass()), node(api.SFinal, "", b)) },
		func(b spec) spec { return node(api.STry, "", block(pass()), node(api.SHandler, "", b)) },
		func(b spec) spec { return node(api.STry, "", block(pass()), node(api.SHandler, "", a, b)) },
	} {
		for blocks := 38; blocks <= 43; blocks++ {
			s := nested(blocks, wrap)
			if got := tree.Right(lay(module(pass(), s, pass()))); got != (blocks <= api.MaxNest) {
				t.Errorf("wrap %d, %d blocks: %v", i, blocks, got)
			}
			// Expressions and blocks are counted apart.
			twice := module(s, s, expression(deep(api.MaxNest, func(e spec) spec { return node(api.ONeg, "", e) })))
			if got := tree.Right(lay(twice)); got != (blocks <= api.MaxNest) {
				t.Errorf("wrap %d, twice %d blocks: %v", i, blocks, got)
			}
		}
	}
	full := block(expression(deep(api.MaxNest, func(e spec) spec { return node(api.ONeg, "", e) })))
	s := node(api.SWhile, "", a, full)
	for range api.MaxNest - 1 {
		s = node(api.SWhile, "", a, block(s))
	}
	wantRight(t, module(s), true)
}

func TestP1RightOfAnyTree(t *testing.T) {
	numbers := []int{math.MinInt, -1, 0, 1, 2, 3, math.MaxInt}
	for _, op := range []int{0, api.OTuple, api.OLambda, api.OParam, api.ODict, api.SModule, api.SBlock, api.SDef, api.SClass, api.STry, api.SHandler, api.SFor, api.SAssign} {
		each(3, numbers, func(l api.Tree) {
			for i := range l {
				l[i].Op = op
			}
			l[2].Op = api.SModule
			if tree.Right(l) {
				t.Errorf("%v can't be right", l)
			}
		})
	}
	for _, l := range []api.Tree{chain(1 << 20), doubled(1 << 20)} {
		l[len(l)-1].Op = api.SModule
		if tree.Right(l) {
			t.Error("a long one can't be right")
		}
	}
}

func TestP1RightOfLongTrees(t *testing.T) {
	const many = 1 << 18
	var l api.Tree
	var row []int
	for i := range many {
		l = append(l, api.Node{Op: api.OInt, N: int64(i)}, api.Node{Op: api.SExpr, Kids: []int{2 * i}})
		row = append(row, 2*i+1)
	}
	l = append(l, api.Node{Op: api.SModule, Kids: row})
	if !tree.Right(l) {
		t.Error("it must be right")
	}
	l[0].N = -1
	if tree.Right(l) {
		t.Error("its first node is not right")
	}
}

func TestR3RightLeavesTheTree(t *testing.T) {
	for _, root := range []spec{module(), module(pass()), around(letters()['l']), around(letters()['r']), module(module())} {
		l := lay(root)
		was := copied(l)
		tree.Right(l)
		if !equal(l, was) {
			t.Errorf("%v was %v", l, was)
		}
	}
}
