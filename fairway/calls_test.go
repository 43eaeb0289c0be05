package fairway_test

import (
	"math"
	"strings"
	"testing"

	"fairway/fairway"
)

func TestErrorNumbers(t *testing.T) {
	for number, err := range []fairway.Errno{
		fairway.OK, fairway.ErrLong, fairway.ErrGraph, fairway.ErrState, fairway.ErrFair,
		fairway.ErrFormula, fairway.ErrNest, fairway.ErrArg, fairway.ErrAll, fairway.ErrFalse,
	} {
		if int(err) != number {
			t.Errorf("an error's number is %d, want %d", err, number)
		}
	}
}

// oddTexts are texts that no call may stumble over.
func oddTexts() []string {
	texts := []string{
		"", "\x00", "\xff\xfe", "\u00e9", "p", "T", ">;", ">1;", "p>01;q>2;>0;",
		"E[pUq]", "EXEXEXEXp", "A[", "[(0)],.o", strings.Repeat("(", 30),
		strings.Repeat("!", 30), strings.Repeat("E[", 15), strings.Repeat(">;", 105),
		strings.Repeat("z", 210), strings.Repeat("(", 5000000), strings.Repeat(">", 5000000),
	}
	for b := 0; b < 256; b++ {
		texts = append(texts, string([]byte{byte(b)}), "p>0"+string([]byte{byte(b)}))
	}
	return texts
}

// Every call ends and none panics, and an error goes with no other result.
func TestCallsEndAtOddTexts(t *testing.T) {
	for _, text := range oddTexts() {
		err, where := fairway.Check(text)
		if where != 0 && err != fairway.ErrGraph && err != fairway.ErrState {
			t.Errorf("Check(%.60q) = %d, %d", text, err, where)
		}
		err, where = fairway.Form(text)
		if where != 0 && err != fairway.ErrFormula {
			t.Errorf("Form(%.60q) = %d, %d", text, err, where)
		}
		pushed, pushErr := fairway.Push(text)
		if pushErr != err || (err == fairway.OK) != (pushed != "") {
			t.Errorf("Push(%.60q) = %q, %d, but Form tells %d", text, pushed, pushErr, err)
		}
		testSolveAtOddText(t, text)
		for _, state := range []int{math.MinInt, -1, 0, 5, 6, math.MaxInt} {
			testReplayAtOddText(t, text, state)
			testShowAtOddText(t, text, state)
		}
	}
}

// testSolveAtOddText lays the text at each place of Solve, with texts that
// are in order at the others.
func testSolveAtOddText(t *testing.T, text string) {
	t.Helper()
	for _, texts := range [][3]string{
		{text, text, text}, {text, "p", "AXp"}, {example, text, "AXp"}, {example, "p", text},
	} {
		solved, err := fairway.Solve(texts[0], texts[1], texts[2])
		count := 0
		if err == fairway.OK {
			count = strings.Count(texts[0], ";")
		}
		if len(solved) != count || strings.Trim(solved, "01") != "" {
			t.Errorf("Solve(%.60q, %.60q, %.60q) = %.60q, %d", texts[0], texts[1], texts[2], solved, err)
		}
	}
}

// testReplayAtOddText lays the text at each place of Replay, with texts that
// are in order at the others.
func testReplayAtOddText(t *testing.T, text string, state int) {
	t.Helper()
	for _, texts := range [][4]string{
		{text, text, text, text}, {text, "p", "EXp", "[(0)]."}, {example, text, "EXp", "[(0)]."},
		{example, "p", text, "[(0)]."}, {example, "p", "EXp", text}, {example, "p", "E[!TRE[TUp]]", text},
	} {
		yes, err := fairway.Replay(texts[0], texts[1], texts[2], state, texts[3])
		if yes && (err != fairway.OK || state < 0 || state >= strings.Count(texts[0], ";")) {
			t.Errorf("Replay(%.60q, %.60q, %.60q, %d, %.60q) = %v, %d", texts[0], texts[1], texts[2], state, texts[3], yes, err)
		}
	}
}

// testShowAtOddText lays the text at each place of Show, with texts that are
// in order at the others.
func testShowAtOddText(t *testing.T, text string, state int) {
	t.Helper()
	for _, texts := range [][3]string{
		{text, text, text}, {text, "p", "E[TUp]"}, {example, text, "E[TUp]"}, {example, "p", text}, {example, "p", "E[!TRE[TUp]]"},
	} {
		cert, err := fairway.Show(texts[0], texts[1], texts[2], state)
		if (err == fairway.OK) != (cert != "") {
			t.Errorf("Show(%.60q, %.60q, %.60q, %d) = %.60q, %d", texts[0], texts[1], texts[2], state, cert, err)
		}
		yes, replayErr := fairway.Replay(texts[0], texts[1], texts[2], state, cert)
		if yes != (err == fairway.OK) || err != fairway.ErrFalse && replayErr != err {
			t.Errorf("Show(%.60q, %.60q, %.60q, %d) = %.60q, %d, of which Replay tells %v, %d", texts[0], texts[1], texts[2], state, cert, err, yes, replayErr)
		}
	}
}

type answers struct {
	checkErr, formErr, pushErr fairway.Errno
	checkWhere, formWhere      int
	pushed                     string
	solved                     [3]string
	solveErrs                  [3]fairway.Errno
	shown                      [4]bool
	replayErrs                 [4]fairway.Errno
	certs                      [4]string
	showErrs                   [4]fairway.Errno
}

func answersTo(text string) answers {
	var a answers
	a.checkErr, a.checkWhere = fairway.Check(text)
	a.formErr, a.formWhere = fairway.Form(text)
	a.pushed, a.pushErr = fairway.Push(text)
	a.solved[0], a.solveErrs[0] = fairway.Solve(text, "p", "E[!TRp]")
	a.solved[1], a.solveErrs[1] = fairway.Solve(example, text, "E[!TRp]")
	a.solved[2], a.solveErrs[2] = fairway.Solve(example, "q", text)
	a.shown[0], a.replayErrs[0] = fairway.Replay(text, "", "E[!TRp]", 0, "[(0)],.o")
	a.shown[1], a.replayErrs[1] = fairway.Replay(example, text, "E[!TRp]", 0, "[(0)],.o")
	a.shown[2], a.replayErrs[2] = fairway.Replay(example, "", text, 0, "[(0)],.o")
	a.shown[3], a.replayErrs[3] = fairway.Replay(example, "", "E[!TRp]", 0, text)
	a.certs[0], a.showErrs[0] = fairway.Show(text, "p", "E[!TRE[TUp]]", 0)
	a.certs[1], a.showErrs[1] = fairway.Show(example, text, "E[!TRE[TUp]]", 0)
	a.certs[2], a.showErrs[2] = fairway.Show(example, "q", text, 0)
	a.certs[3], a.showErrs[3] = fairway.Show(example, "q", "E[!TRE[TUp]]", len(text)%4)
	return a
}

// What a call answers does not hang on the calls ahead of it.
func TestCallsKeepNothing(t *testing.T) {
	texts := append(oddTexts(), "!E[pU!q]", "!(p&q)", strings.Repeat(fullState, 6), ">0;>5;")
	first := make([]answers, len(texts))
	for i, text := range texts {
		first[i] = answersTo(text)
	}
	for i := len(texts) - 1; i >= 0; i-- {
		answersTo(texts[(i*7)%len(texts)])
		if again := answersTo(texts[i]); again != first[i] {
			t.Errorf("%.60q: first %v, then %v", texts[i], first[i], again)
		}
	}
}
