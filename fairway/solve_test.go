package fairway_test

import (
	"slices"
	"strings"
	"testing"

	"fairway/fairway"
)

type solveCase struct {
	graph, fair, formula string
	text                 string
	err                  fairway.Errno
}

func testSolve(t *testing.T, cases []solveCase) {
	t.Helper()
	for _, c := range cases {
		text, err := fairway.Solve(c.graph, c.fair, c.formula)
		if text != c.text || err != c.err {
			t.Errorf("Solve(%.60q, %.60q, %.60q) = %q, %d, want %q, %d", c.graph, c.fair, c.formula, text, err, c.text, c.err)
		}
	}
}

const (
	// example is the graph of the document's examples.
	example = "p>01;q>2;>0;"
	// fork: 0 may go on to 1 and 2; 1 goes round and 2 goes round with 3;
	// 4 may go nowhere but to 5, and 5 goes nowhere.
	fork = "p>12;q>1;p>3;pr>2;p>5;q>;"
)

func TestSolveExamples(t *testing.T) {
	testSolve(t, []solveCase{
		{example, "", "EXp", "101", fairway.OK},
		{example, "", "AXp", "001", fairway.OK},
		{example, "", "E[!TRp]", "100", fairway.OK},
		{example, "", "E[TUq]", "111", fairway.OK},
		{example, "", "A[TUq]", "010", fairway.OK},
		{example, "q", "E[!TRp]", "000", fairway.OK},
		{example, "q", "A[TUq]", "111", fairway.OK},
		{example, "z", "EXT", "000", fairway.OK},
		{example, "z", "AX!T", "111", fairway.OK},
	})
}

func TestSolveWithoutWays(t *testing.T) {
	testSolve(t, []solveCase{
		{example, "", "T", "111", fairway.OK},
		{example, "", "!T", "000", fairway.OK},
		{example, "", "p", "100", fairway.OK},
		{example, "", "z", "000", fairway.OK},
		{example, "", "!q", "101", fairway.OK},
		{example, "", "!!q", "010", fairway.OK},
		{example, "", "(p&T)", "100", fairway.OK},
		{example, "", "(p&q)", "000", fairway.OK},
		{example, "", "(p+q)", "110", fairway.OK},
		{example, "", "(p+p)", "100", fairway.OK},
		{"az>;a>;z>;", "", "a", "110", fairway.OK},
		{"az>;a>;z>;", "", "z", "101", fairway.OK},
		{"az>;a>;z>;", "", "(a&z)", "100", fairway.OK},
		// Whether a fair way goes from a state does not touch these.
		{example, "z", "(p+!q)", "101", fairway.OK},
	})
}

// Each sign with E and with A, over a graph with a fork and a dead end.
func TestSolveTable(t *testing.T) {
	testSolve(t, []solveCase{
		{fork, "", "EXq", "110000", fairway.OK},
		{fork, "", "AXq", "010011", fairway.OK},
		{fork, "", "EXr", "001000", fairway.OK},
		{fork, "", "AXr", "001011", fairway.OK},
		{fork, "", "E[pUq]", "110000", fairway.OK},
		{fork, "", "A[pUq]", "010011", fairway.OK},
		{fork, "", "E[pUr]", "101100", fairway.OK},
		{fork, "", "A[pUr]", "001111", fairway.OK},
		{fork, "", "E[!TUr]", "000100", fairway.OK},
		{fork, "", "A[!TUp]", "101111", fairway.OK},
		{fork, "", "E[!TRp]", "101100", fairway.OK},
		{fork, "", "A[!TRp]", "001111", fairway.OK},
		{fork, "", "E[rRp]", "101100", fairway.OK},
		{fork, "", "A[pRq]", "010011", fairway.OK},
		{fork, "", "E[!rR!r]", "111000", fairway.OK},
		{fork, "", "A[qR(p+q)]", "111111", fairway.OK},
		{fork, "", "A[rR!q]", "001111", fairway.OK},
	})
}

// R asks for its right part at the place that settles it too, U for its left
// part below that place alone.
func TestSolvePlaceThatSettles(t *testing.T) {
	testSolve(t, []solveCase{
		{"q>1;p>1;", "", "E[pRq]", "00", fairway.OK},
		{"q>1;pq>2;>2;", "", "E[pRq]", "110", fairway.OK},
		{"q>1;p>1;", "", "A[pRq]", "00", fairway.OK},
		{"q>1;pq>2;>2;", "", "A[pRq]", "110", fairway.OK},
		{"p>1;q>1;", "", "E[pUq]", "11", fairway.OK},
		{"p>1;>2;q>2;", "", "E[pUq]", "001", fairway.OK},
		{"p>1;q>1;", "", "A[pUq]", "11", fairway.OK},
		{"p>1;>2;q>2;", "", "A[pUq]", "001", fairway.OK},
		// It may be place 0, but place 0 alone is no place 1.
		{"pq>1;>1;", "", "E[!TUq]", "10", fairway.OK},
		{"pq>1;>1;", "", "E[pRq]", "10", fairway.OK},
		{"pq>1;>1;", "", "EXp", "00", fairway.OK},
	})
}

func TestSolveFairMarks(t *testing.T) {
	testSolve(t, []solveCase{
		{fork, "q", "EXT", "110000", fairway.OK},
		{fork, "q", "AXq", "111111", fairway.OK},
		{fork, "q", "E[!TRp]", "000000", fairway.OK},
		{fork, "p", "E[pUq]", "000000", fairway.OK},
		{fork, "p", "A[TUr]", "111111", fairway.OK},
		{fork, "pr", "EXp", "101100", fairway.OK},
		{fork, "pq", "EXT", "000000", fairway.OK},
		{fork, "pq", "A[!TU!T]", "111111", fairway.OK},
		{fork, "qr", "E[TUT]", "000000", fairway.OK},
		// A mark that is met once, but not again and again.
		{"f>1;>1;", "f", "EXT", "00", fairway.OK},
		{"f>1;>01;", "f", "EXT", "11", fairway.OK},
		// Two marks in one state, and in two states of one round.
		{"fg>0;f>1;g>2;", "fg", "EXT", "100", fairway.OK},
		{"f>1;g>0;f>3;>2;", "fg", "EXT", "1100", fairway.OK},
		{">12;f>0;g>0;", "fg", "EXT", "111", fairway.OK},
		// Two rounds with one mark each, and no way back from the second.
		{"f>01;g>1;", "fg", "EXT", "00", fairway.OK},
		// Two rounds at one state, of which a way may take each in turn.
		{"p>12;q>0;r>0;", "qr", "E[!TR!r]", "000", fairway.OK},
		{"p>12;q>0;r>0;", "q", "E[!TR!r]", "110", fairway.OK},
		{"p>12;q>0;r>0;", "qr", "E[!rUq]", "110", fairway.OK},
	})
}

// The end of a fair way may leave the states that its beginning keeps to, but
// not if it keeps to them at all places.
func TestSolveFairEndElsewhere(t *testing.T) {
	testSolve(t, []solveCase{
		{"p>01;f>1;", "f", "E[pUp]", "10", fairway.OK},
		{"p>01;f>1;", "f", "E[pRp]", "10", fairway.OK},
		{"p>01;f>1;", "f", "E[!TRp]", "00", fairway.OK},
		{"p>01;f>1;", "f", "EXp", "10", fairway.OK},
		{"pq>01;p>1;f>2;", "f", "E[pUq]", "000", fairway.OK},
		{"pq>01;p>12;f>2;", "f", "E[pUq]", "100", fairway.OK},
		{"pq>0;p>01;f>2;", "f", "A[TU!T]", "110", fairway.OK},
	})
}

// From these states no fair way goes: for want of edges, for want of an
// endless way, or for want of a fair mark.
func TestSolveNoFairWay(t *testing.T) {
	for _, c := range []struct{ graph, fair string }{
		{"p>;", ""}, {"p>1;p>;", ""}, {"p>12;p>2;p>;", ""}, {"p>0;", "q"}, {"p>0;", "pq"},
		{"p>12345;p>2345;p>345;p>45;p>5;p>;", ""}, {"p>5;p>0;p>1;p>2;p>3;p>4;", "z"},
	} {
		count := strings.Count(c.graph, ";")
		for formula, sign := range map[string]string{
			"EXT": "0", "E[TUT]": "0", "E[TRT]": "0", "E[pUp]": "0", "E[!TRp]": "0", "E[pRp]": "0",
			"AX!T": "1", "A[!TU!T]": "1", "A[!TR!T]": "1", "A[!pU!p]": "1", "AXp": "1",
			"p": "1", "!EXp": "1", "!AXp": "0",
		} {
			testSolve(t, []solveCase{{c.graph, c.fair, formula, strings.Repeat(sign, count), fairway.OK}})
		}
	}
}

func TestSolveOneState(t *testing.T) {
	testSolve(t, []solveCase{
		{"p>0;", "", "EXp", "1", fairway.OK},
		{"p>0;", "", "AX!p", "0", fairway.OK},
		{"p>0;", "p", "E[!TRp]", "1", fairway.OK},
		{"p>0;", "", "A[TUq]", "0", fairway.OK},
		{"pq>0;", "pq", "E[pUq]", "1", fairway.OK},
		{"pq>0;", "pz", "E[pUq]", "0", fairway.OK},
		{">0;", "", "T", "1", fairway.OK},
		{">;", "", "T", "1", fairway.OK},
	})
}

// The longest ways that six states have.
func TestSolveSixStates(t *testing.T) {
	const line = "p>1;p>2;p>3;p>4;p>5;q>5;"
	const circle = "p>1;p>2;p>3;p>4;fp>5;gp>0;"
	const backwards = "q>0;p>0;p>1;p>2;p>3;p>4;"
	testSolve(t, []solveCase{
		{line, "", "E[pUq]", "111111", fairway.OK},
		{line, "", "A[pUq]", "111111", fairway.OK},
		{line, "", "E[!TRp]", "000000", fairway.OK},
		{line, "", "EXEXEXq", "001111", fairway.OK},
		{line, "q", "EXT", "111111", fairway.OK},
		{line, "p", "EXT", "000000", fairway.OK},
		{circle, "fg", "E[!TRp]", "111111", fairway.OK},
		{circle, "fg", "E[!gUf]", "111110", fairway.OK},
		{circle, "", "A[!TR!g]", "000000", fairway.OK},
		{circle, "", "A[TUg]", "111111", fairway.OK},
		{backwards, "", "E[pUq]", "111111", fairway.OK},
		{backwards, "", "A[qRp]", "000000", fairway.OK},
		{backwards, "q", "A[qR(p+q)]", "111111", fairway.OK},
		{strings.Repeat(fullState, 6), "az", "E[aUAXz]", "111111", fairway.OK},
	})
}

func TestSolveErrors(t *testing.T) {
	longGraph, longFormula := strings.Repeat("p", 211), strings.Repeat("p", 31)
	hugeText := strings.Repeat(">", 9000000)
	testSolve(t, []solveCase{
		{longGraph, "", "p", "", fairway.ErrLong},
		{strings.Repeat(">;", 106), "", "p", "", fairway.ErrLong},
		{example, "", longFormula, "", fairway.ErrLong},
		{hugeText, "", "p", "", fairway.ErrLong},
		{example, "", hugeText, "", fairway.ErrLong},
		{"", "", "p", "", fairway.ErrGraph},
		{"qp>0;", "", "p", "", fairway.ErrGraph},
		{strings.Repeat("p", 210), "", "p", "", fairway.ErrGraph},
		{"p>01;q>3;>0;", "", "p", "", fairway.ErrState},
		{example, "pqr", "p", "", fairway.ErrFair},
		{example, "abc", "p", "", fairway.ErrFair},
		{example, "qp", "p", "", fairway.ErrFair},
		{example, "pp", "p", "", fairway.ErrFair},
		{example, "P", "p", "", fairway.ErrFair},
		{example, "p ", "p", "", fairway.ErrFair},
		{example, "`", "p", "", fairway.ErrFair},
		{example, "{", "p", "", fairway.ErrFair},
		{example, "a{", "p", "", fairway.ErrFair},
		{example, "0", "p", "", fairway.ErrFair},
		{example, "\x00", "p", "", fairway.ErrFair},
		{example, "\xff", "p", "", fairway.ErrFair},
		{example, hugeText, "p", "", fairway.ErrFair},
		{example, "", "", "", fairway.ErrFormula},
		{example, "", "(p", "", fairway.ErrFormula},
		{example, "", strings.Repeat("!", 30), "", fairway.ErrFormula},
		{example, "", "EXEXEXEXp", "", fairway.ErrNest},
		{example, "az", "EXEXEXp", "000", fairway.OK},
	})
}

// Of several errors the one named first is the answer.
func TestSolveFirstError(t *testing.T) {
	graphs := []struct {
		text string
		err  fairway.Errno
	}{
		{strings.Repeat("p", 211), fairway.ErrLong}, {"p>0", fairway.ErrGraph}, {">1;", fairway.ErrState}, {">0;", fairway.OK},
	}
	fairs := []struct {
		text string
		err  fairway.Errno
	}{
		{"abc", fairway.ErrFair}, {"ba", fairway.ErrFair}, {"aa", fairway.ErrFair}, {"A", fairway.ErrFair}, {"ab", fairway.OK},
	}
	formulas := []struct {
		text string
		err  fairway.Errno
	}{
		{strings.Repeat("!", 31), fairway.ErrLong}, {"EX", fairway.ErrFormula}, {"AXAXAXAXp", fairway.ErrNest}, {"AXp", fairway.OK},
	}
	for _, graph := range graphs {
		for _, fair := range fairs {
			for _, formula := range formulas {
				want := firstError(graph.err, fair.err, formula.err)
				text := ""
				if want == fairway.OK {
					text = "1"
				}
				testSolve(t, []solveCase{{graph.text, fair.text, formula.text, text, want}})
			}
		}
	}
}

// firstError is the error named first, of those of the arguments in their
// order: that a text is too long comes ahead of every other.
func firstError(errs ...fairway.Errno) fairway.Errno {
	if slices.Contains(errs, fairway.ErrLong) {
		return fairway.ErrLong
	}
	for _, err := range errs {
		if err != fairway.OK {
			return err
		}
	}
	return fairway.OK
}

// Every text of at most three bytes is fair marks or is not.
func TestSolveAllFairMarks(t *testing.T) {
	for _, fair := range allTexts("`abcz{A0 ", 3) {
		rising := len(fair) <= 2
		for i := range len(fair) {
			if fair[i] < 'a' || fair[i] > 'z' || i > 0 && fair[i-1] >= fair[i] {
				rising = false
			}
		}
		want := solveCase{">0;", fair, "T", "", fairway.ErrFair}
		if rising {
			want = solveCase{">0;", fair, "T", "1", fairway.OK}
		}
		testSolve(t, []solveCase{want})
	}
}
