package fairway_test

import (
	"math"
	"regexp"
	"slices"
	"strings"
	"testing"

	"fairway/fairway"
)

var anyLasso = regexp.MustCompile(`\[[^\]]*\]`)

// testShown asks for a certificate, which must be one by Replay and by the
// words of the table, and tells it.
func testShown(t *testing.T, graph, fair, formula string, state int) string {
	t.Helper()
	cert, err := fairway.Show(graph, fair, formula, state)
	if err != fairway.OK || len(cert) > 4000000 {
		t.Fatalf("Show(%q, %q, %q, %d) = %.90q, of %d bytes, %d", graph, fair, formula, state, cert, len(cert), err)
	}
	for _, way := range anyLasso.FindAllString(cert, -1) {
		if len(way) > 40+len("[()]") {
			t.Errorf("Show(%q, %q, %q, %d) has the lasso %q", graph, fair, formula, state, way)
		}
	}
	testReplay(t, []replayCase{{graph, fair, formula, state, cert, true}})
	pushed, _ := fairway.Push(formula)
	if !slices.Contains(worldOf(graph, fair).rests(pushed, state, cert), "") {
		t.Errorf("Show(%q, %q, %q, %d) = %.200q, which is none by the table", graph, fair, formula, state, cert)
	}
	return cert
}

func testShowError(t *testing.T, graph, fair, formula string, state int, want fairway.Errno) {
	t.Helper()
	cert, err := fairway.Show(graph, fair, formula, state)
	if cert != "" || err != want {
		t.Errorf("Show(%.60q, %.60q, %.60q, %d) = %.90q, %d, want no text, %d", graph, fair, formula, state, cert, err, want)
	}
}

// testShows looks at each state of a graph: the formula is shown where it
// holds by Solve, and is false elsewhere. It tells in how many it is shown.
func testShows(t *testing.T, graph, fair, formula string) int {
	t.Helper()
	text, err := fairway.Solve(graph, fair, formula)
	if err != fairway.OK {
		t.Fatalf("Solve(%q, %q, %q) = %q, %d", graph, fair, formula, text, err)
	}
	for state, sign := range text {
		if sign == '1' {
			testShown(t, graph, fair, formula, state)
		} else {
			testShowError(t, graph, fair, formula, state, fairway.ErrFalse)
		}
	}
	return strings.Count(text, "1")
}

// showCase says in which states a formula is shown, as Solve would.
type showCase struct{ graph, fair, formula, text string }

func testShowCases(t *testing.T, cases []showCase) {
	t.Helper()
	for _, c := range cases {
		testSolve(t, []solveCase{{c.graph, c.fair, c.formula, c.text, fairway.OK}})
		testShows(t, c.graph, c.fair, c.formula)
	}
}

func TestShowExamples(t *testing.T) {
	testShown(t, example, "", "E[!TRp]", 0)
	testShowError(t, example, "", "E[!TRp]", 1, fairway.ErrFalse)
	testShowError(t, example, "", "E[!TRp]", 3, fairway.ErrArg)
}

// What the examples of Solve and Replay say can be shown, where it speaks of
// some way.
func TestShowOtherExamples(t *testing.T) {
	testShowCases(t, []showCase{
		{example, "", "EXp", "101"},
		{example, "", "E[TUq]", "111"},
		{example, "q", "E[!TRp]", "000"},
		{example, "z", "EXT", "000"},
		{example, "q", "E[pUq]", "110"},
		{example, "", "EX(q&!p)", "100"},
		{example, "", "!AXp", "110"},
	})
}

// Where there is but one certificate, it is the answer.
func TestShowOnlyCertificate(t *testing.T) {
	for _, c := range []struct {
		graph, formula string
		state          int
		cert           string
	}{
		{example, "T", 2, "."},
		{example, "p", 0, "."},
		{example, "!p", 1, "."},
		{example, "!z", 0, "."},
		{"abz>;", "z", 0, "."},
		{example, "(p&!q)", 0, "&.."},
		{example, "(p&(T&!q))", 0, "&.&.."},
		{example, "((p&T)&!q)", 0, "&&..."},
		{example, "(p+q)", 0, "<."},
		{example, "(p+q)", 1, ">."},
		{example, "((q+p)+q)", 0, "<>."},
		{example, "(q+(q+p))", 0, ">>."},
		{example, "((p+q)&(q+p))", 1, "&>.<."},
		{example, "!(p+q)", 2, "&.."},
	} {
		if cert := testShown(t, c.graph, "", c.formula, c.state); cert != c.cert {
			t.Errorf("Show(%q, \"\", %q, %d) = %q, want %q", c.graph, c.formula, c.state, cert, c.cert)
		}
	}
}

// Each row of the table of certificates, over a graph with a fork and a dead
// end, without fair marks, with one and with two.
func TestShowRows(t *testing.T) {
	testShowCases(t, []showCase{
		{fork, "", "T", "111111"},
		{fork, "pz", "T", "111111"},
		{fork, "", "!T", "000000"},
		{fork, "", "q", "010001"},
		{fork, "z", "!q", "101110"},
		{fork, "", "(p&!r)", "101010"},
		{fork, "pr", "(EXp&!r)", "101000"},
		{fork, "", "(q+r)", "010101"},
		{fork, "", "(EXp+EXq)", "111100"},
		{fork, "", "EXq", "110000"},
		{fork, "q", "EXT", "110000"},
		{fork, "pr", "EXT", "101100"},
		{fork, "", "E[pUq]", "110000"},
		{fork, "q", "E[pUq]", "110000"},
		{fork, "r", "E[pUq]", "000000"},
		{fork, "pr", "E[pUr]", "101100"},
		{fork, "", "E[!TRp]", "101100"},
		{fork, "r", "E[!TRp]", "101100"},
		{fork, "q", "E[!TRp]", "000000"},
		{fork, "pr", "E[rRp]", "101100"},
		{fork, "q", "E[!TR(p+q)]", "110000"},
	})
}

// The place that settles U or R may lie far ahead of the round, and the round
// may lie where the nearest path does not lead.
func TestShowPlaceThatSettles(t *testing.T) {
	testShowCases(t, []showCase{
		{"q>1;p>1;", "", "E[pRq]", "00"},
		{"q>1;pq>2;>2;", "", "E[pRq]", "110"},
		{"p>1;p>2;q>3;f>3;", "f", "E[pUq]", "1110"},
		{"p>01;f>1;", "f", "E[pUp]", "10"},
		{"p>01;f>1;", "f", "E[pRp]", "10"},
		{"p>01;f>1;", "f", "E[!TRp]", "00"},
		{"p>01;f>1;", "f", "EXp", "10"},
		// A goal from which no fair way goes lies nearer than one that will do.
		{"p>12;q>;p>3;q>3;", "", "E[pUq]", "1011"},
		{"p>12;q>1;p>3;fq>3;", "f", "E[pUq]", "1011"},
		{"q>12;pq>;q>3;pq>3;", "", "E[pRq]", "1011"},
		{"p>12;q>;q>2;", "", "EXq", "101"},
		// A round within the right part lies farther than one that leaves it.
		{"p>12;>1;p>3;p>4;p>2;", "", "E[!TRp]", "10111"},
		{"p>01;fp>2;p>1;", "f", "E[!TRp]", "111"},
		// The shortest path to the goal leaves the left part.
		{"p>12;>5;p>3;p>4;p>5;q>5;", "", "E[pUq]", "101111"},
	})
}

func TestShowOneState(t *testing.T) {
	testShowCases(t, []showCase{
		{">;", "", "T", "1"},
		{">;", "", "EXT", "0"},
		{">;", "", "E[TUT]", "0"},
		{">;", "", "E[TRT]", "0"},
		{"p>0;", "", "EXEXEXp", "1"},
		{"p>0;", "p", "E[!TRp]", "1"},
		{"pq>0;", "pq", "E[pUq]", "1"},
		{"pq>0;", "pz", "E[pUq]", "0"},
		{"p>1;>;", "", "EXT", "00"},
	})
}

// The certificate is one for the pushed formula.
func TestShowNotPushed(t *testing.T) {
	testShowCases(t, []showCase{
		{example, "", "!!p", "100"},
		{example, "", "!!!p", "011"},
		{example, "", "!!T", "111"},
		{example, "", "!(p&!q)", "011"},
		{example, "", "!(p+q)", "001"},
		{example, "", "!!(T&(p+T))", "111"},
		{example, "", "!A[!pR!q]", "110"},
		{example, "", "!A[TU!p]", "100"},
		{example, "q", "!A[!pUq]", "101"},
		{example, "", "EX!AX!q", "101"},
		{example, "q", "!AX!E[TUq]", "111"},
		{example, "", "!(AXp+A[!TU!q])", "010"},
		{example, "", "!A[!qUA[pU!q]]", "010"},
		{"h>0;", "", "!(((((((a&b)&c)&d)&e)&f)&g)&h)", "1"},
	})
}

// farGraphs are graphs of six states, all with p, in which a fair way has to
// go far to meet f and g again and again.
func farGraphs() []string {
	return []string{
		// a line with a fair mark at each end, in several orders
		"fp>1;p>02;p>13;p>24;p>35;gp>4;",
		"gp>1;p>02;p>13;p>24;p>35;fp>4;",
		"p>35;p>24;p>15;fp>0;gp>1;p>02;",
		// a circle, and one with edges that lead back early
		"fp>1;p>2;p>3;gp>4;p>5;p>0;",
		"p>1;p>02;fp>013;p>0124;p>01235;gp>0;",
		// two circles that meet in one state, with a fair mark in each
		"p>14;p>2;fp>3;p>0;p>5;gp>0;",
		"p>13;fp>2;p>0;p>4;p>5;gp>0;",
		// a line that leads to a round with both marks
		"p>1;p>2;p>3;p>4;fp>5;gp>4;",
		"p>1;p>2;p>3;fp>4;p>5;gp>3;",
		// rounds that are not fair on the way
		"p>01;p>12;fp>23;p>34;fp>5;gp>4;",
	}
}

func TestShowFarFairMarks(t *testing.T) {
	for _, graph := range farGraphs() {
		for _, formula := range []string{"EXp", "E[pUf]", "E[pUg]", "E[pR(p&T)]", "E[!TRp]", "E[fRp]", "E[TUE[!TRp]]", "EX(p&EX(p&EXp))"} {
			for _, fair := range []string{"", "f", "g", "fg", "fp", "gp"} {
				if shown := testShows(t, graph, fair, formula); shown < 4 {
					t.Errorf("%q, %q: %q holds in %d states, want more", graph, fair, formula, shown)
				}
			}
		}
	}
}

// Formulas of 30 bytes that have to stay on long ways, within one another.
// They hold in every state of these graphs.
func TestShowLongCertificates(t *testing.T) {
	longest := 0
	for _, graph := range farGraphs() {
		for _, formula := range []string{
			"E[zRE[zRE[zR(p&(p&(p&!!p)))]]]", "E[zRE[EXzRE[zR(p&(p&(p&p)))]]]", "!A[TUA[TUA[TU!(p&(p&(p&p)))]]]",
			"E[!TR(E[!TREXp]&E[zRE[!pUp]])]", "EX(E[!TRE[zRp]]&E[!TRE[TU!z]])", "E[!TR(EXT&E[!TR(EXT&E[pUg])])]",
			"E[!TR(E[TUf]&E[!TRE[pU!!!z]])]", "E[E[zRE[zRp]]UE[TU(g&E[zRp])]]",
		} {
			if len(formula) != 30 {
				t.Errorf("%q has %d bytes", formula, len(formula))
			}
			for state := range 6 {
				longest = max(longest, len(testShown(t, graph, "fg", formula, state)))
			}
		}
	}
	if longest < 5000 {
		t.Errorf("the longest certificate has %d bytes, want more", longest)
	}
}

// From these states no fair way goes: whatever begins with E is false, but
// marks can be shown.
func TestShowNoFairWay(t *testing.T) {
	for _, c := range []struct{ graph, fair string }{
		{"p>;", ""}, {"p>1;p>;", ""}, {"p>12;p>2;p>;", ""}, {"p>0;", "q"}, {"p>0;", "pq"},
		{"p>12345;p>2345;p>345;p>45;p>5;p>;", ""}, {"p>5;p>0;p>1;p>2;p>3;p>4;", "z"},
	} {
		for state := range strings.Count(c.graph, ";") {
			for _, formula := range []string{"EXT", "E[TUT]", "E[TRT]", "E[pUp]", "E[!TRp]", "E[pRp]", "(p&EXp)", "!AXp", "!A[!pU!p]"} {
				testShowError(t, c.graph, c.fair, formula, state, fairway.ErrFalse)
			}
			for _, formula := range []string{"p", "T", "!q", "(p+EXp)", "(EXp+p)"} {
				testShown(t, c.graph, c.fair, formula, state)
			}
		}
	}
}

func TestShowStates(t *testing.T) {
	six := strings.Repeat("p>0;", 6)
	for _, state := range []int{math.MinInt, math.MinInt + 1, -256, -2, -1, 3, 4, 6, 256, 1 << 32, math.MaxInt} {
		for _, formula := range []string{"p", "!T", "AXp", "EXp"} {
			testShowError(t, example, "", formula, state, fairway.ErrArg)
			if state < 0 || state > 5 {
				testShowError(t, six, "", formula, state, fairway.ErrArg)
			}
		}
	}
	for state := range 6 {
		testShown(t, six, "", "E[!TRp]", state)
	}
	testShowError(t, "p>0;", "", "p", 1, fairway.ErrArg)
}

// An A anywhere in the pushed formula, whether it holds or not.
func TestShowAll(t *testing.T) {
	for _, formula := range []string{
		"AXp", "A[pUq]", "A[pRq]", "!EXp", "!E[pUq]", "!E[pRq]", "!!AXp", "(p+AXq)", "(AXq+p)", "(p&!EXq)",
		"E[AXpUq]", "E[pUAXq]", "E[pRA[pUq]]", "EXEXAXp", "!AXEXp", "!A[pUEXp]", "A[TUT]", "!(AXp&EXq)", "(!T&AXp)",
	} {
		for state := range 3 {
			testShowError(t, example, "", formula, state, fairway.ErrAll)
		}
	}
}

func TestShowErrors(t *testing.T) {
	huge := strings.Repeat(">", 9000000)
	for _, c := range []struct {
		graph, fair, formula string
		err                  fairway.Errno
	}{
		{strings.Repeat("p", 211), "", "p", fairway.ErrLong},
		{strings.Repeat("p", 210), "", "p", fairway.ErrGraph},
		{huge, "", "p", fairway.ErrLong},
		{"", "", "p", fairway.ErrGraph},
		{"p>01;q>3;>0;", "", "p", fairway.ErrState},
		{example, "pqr", "p", fairway.ErrFair},
		{example, "qp", "p", fairway.ErrFair},
		{example, huge, "p", fairway.ErrFair},
		{example, "", strings.Repeat("!", 31), fairway.ErrLong},
		{example, "", strings.Repeat("!", 30), fairway.ErrFormula},
		{example, "", huge, fairway.ErrLong},
		{example, "", "", fairway.ErrFormula},
		{example, "", "EXEXEXEXp", fairway.ErrNest},
	} {
		testShowError(t, c.graph, c.fair, c.formula, 0, c.err)
	}
}

// Of several errors the one named first is the answer.
func TestShowFirstError(t *testing.T) {
	type text struct {
		text string
		err  fairway.Errno
	}
	graphs := []text{{strings.Repeat("p", 211), fairway.ErrLong}, {"p>0", fairway.ErrGraph}, {">1;", fairway.ErrState}, {"p>0;", fairway.OK}}
	fairs := []text{{"abc", fairway.ErrFair}, {"ba", fairway.ErrFair}, {"p", fairway.OK}}
	formulas := []text{
		{strings.Repeat("!", 31), fairway.ErrLong}, {"EX", fairway.ErrFormula}, {"AXAXAXAXp", fairway.ErrNest},
		{"(q&AXp)", fairway.ErrAll}, {"(q&EXp)", fairway.ErrFalse}, {"(p&EXp)", fairway.OK},
	}
	for _, graph := range graphs {
		for _, fair := range fairs {
			for _, formula := range formulas {
				for _, state := range []int{-1, 0, 1} {
					stateErr := fairway.ErrArg
					if state == 0 {
						stateErr = fairway.OK
					}
					errs := []fairway.Errno{graph.err, fair.err, formula.err, stateErr}
					if formula.err == fairway.ErrAll || formula.err == fairway.ErrFalse {
						errs = []fairway.Errno{graph.err, fair.err, stateErr, formula.err}
					}
					if want := firstError(errs...); want != fairway.OK {
						testShowError(t, graph.text, fair.text, formula.text, state, want)
					} else {
						testShown(t, graph.text, fair.text, formula.text, state)
					}
				}
			}
		}
	}
}

// All graphs of two states with the marks p and q.
func TestShowAllPairs(t *testing.T) {
	for _, graph := range allPairs() {
		for _, fair := range []string{"", "p", "q", "pq", "pz"} {
			for _, formula := range someFormulas() {
				testShows(t, graph, fair, formula)
			}
		}
	}
}

func TestShowManyGraphs(t *testing.T) {
	var l lottery
	shown := 0
	for range 250 {
		graph := l.graph(1+l.below(6), 2+l.below(4))
		for _, fair := range []string{"", "f", "q", "fg", "pq", "gz"} {
			for range 12 {
				shown += testShows(t, graph, fair, l.formula())
			}
		}
	}
	if shown < 5000 {
		t.Errorf("%d certificates were shown, want more", shown)
	}
}

// formula makes one of at most 30 bytes and a nest of at most 3 that speaks of
// some way alone when it is pushed.
func (l *lottery) formula() string {
	for {
		text := l.part(3, false)
		if len(text) <= 30 {
			return text
		}
	}
}

// part makes a formula of at most this nest. Under a negation it speaks of
// every way.
func (l *lottery) part(nest int, negated bool) string {
	way := "E"
	if negated {
		way = "A"
	}
	kind := l.below(8)
	switch {
	case nest == 0 || kind == 0:
		return []string{"T", "!T", "p", "!p", "q", "f", "!g"}[l.below(7)]
	case kind == 1:
		return "!" + l.part(nest, !negated)
	case kind == 2:
		return "(" + l.part(nest, negated) + []string{"&", "+"}[l.below(2)] + l.part(l.below(nest), negated) + ")"
	case kind == 3:
		return way + "X" + l.part(nest-1, negated)
	}
	return way + "[" + l.part(l.below(nest), negated) + []string{"U", "R"}[l.below(2)] + l.part(nest-1, negated) + "]"
}
