package fairway_test

import (
	"regexp"
	"strings"
	"testing"

	"fairway/fairway"
)

// fullState has every mark and every next state that a state may have.
const fullState = "abcdefghijklmnopqrstuvwxyz>012345;"

type checkCase struct {
	graph string
	err   fairway.Errno
	where int
}

func testCheck(t *testing.T, cases []checkCase) {
	t.Helper()
	for _, c := range cases {
		err, where := fairway.Check(c.graph)
		if err != c.err || where != c.where {
			t.Errorf("Check(%.60q) = %d, %d, want %d, %d", c.graph, err, where, c.err, c.where)
		}
	}
}

func TestCheckExamples(t *testing.T) {
	testCheck(t, []checkCase{
		{"p>01;q>2;>0;", fairway.OK, 0},
		{"p>01;q>3;>0;", fairway.ErrState, 1},
		{"qp>0;", fairway.ErrGraph, 1},
		{"p>10;", fairway.ErrGraph, 3},
		{"p>0", fairway.ErrGraph, 3},
		{"", fairway.ErrGraph, 0},
		{">6;", fairway.ErrGraph, 1},
	})
}

func TestCheckLength(t *testing.T) {
	testCheck(t, []checkCase{
		{strings.Repeat("p", 210), fairway.ErrGraph, 1},
		{strings.Repeat("p", 211), fairway.ErrLong, 0},
		{strings.Repeat(fullState, 6) + ">;>;>;", fairway.ErrGraph, 204},
		{strings.Repeat(fullState, 6) + ">;>;>;>", fairway.ErrLong, 0},
		{strings.Repeat("\xff", 210), fairway.ErrGraph, 0},
		{strings.Repeat("\xff", 211), fairway.ErrLong, 0},
		{strings.Repeat(">9;", 1000000), fairway.ErrLong, 0},
	})
}

func TestCheckNumberOfStates(t *testing.T) {
	testCheck(t, []checkCase{
		{">;", fairway.OK, 0},
		{fullState + strings.Repeat(">;", 5), fairway.OK, 0},
		{strings.Repeat(">;", 6), fairway.OK, 0},
		{strings.Repeat(fullState, 6), fairway.OK, 0},
		{strings.Repeat(">;", 7), fairway.ErrGraph, 12},
		{strings.Repeat(">;", 6) + "p", fairway.ErrGraph, 12},
		{strings.Repeat(">;", 6) + ";", fairway.ErrGraph, 12},
		{strings.Repeat(">;", 6) + ">6;", fairway.ErrGraph, 12},
	})
}

func TestCheckRisingOrder(t *testing.T) {
	testCheck(t, []checkCase{
		{"abyz>;", fairway.OK, 0},
		{"ab>;", fairway.OK, 0},
		{"aa>;", fairway.ErrGraph, 1},
		{"abca>;", fairway.ErrGraph, 3},
		{"za>;", fairway.ErrGraph, 1},
		{"zz>;", fairway.ErrGraph, 1},
		{">05;>;>;>;>;>;", fairway.OK, 0},
		{">00;", fairway.ErrGraph, 2},
		{">10;>;", fairway.ErrGraph, 2},
		{">0120;", fairway.ErrGraph, 4},
		{">55;>;>;>;>;>;", fairway.ErrGraph, 2},
		{"z>0;a>0;", fairway.OK, 0},
	})
}

func TestCheckEndsTooEarly(t *testing.T) {
	for _, whole := range []string{"p>01;q>2;>0;", fullState + fullState, ">;>;"} {
		for end := 0; end < len(whole); end++ {
			if end > 0 && whole[end-1] == ';' {
				continue
			}
			testCheck(t, []checkCase{{whole[:end], fairway.ErrGraph, end}})
		}
	}
}

func TestCheckBytesBesideTheRanges(t *testing.T) {
	testCheck(t, []checkCase{
		{"`>;", fairway.ErrGraph, 0},
		{"{>;", fairway.ErrGraph, 0},
		{"a{>;", fairway.ErrGraph, 1},
		{"A>;", fairway.ErrGraph, 0},
		{">/;", fairway.ErrGraph, 1},
		{">6;", fairway.ErrGraph, 1},
		{">0 ;", fairway.ErrGraph, 2},
		{">0;\n", fairway.ErrGraph, 3},
		{"p>\x00;", fairway.ErrGraph, 2},
		{"\u00e9>;", fairway.ErrGraph, 0},
	})
}

func TestCheckNextStates(t *testing.T) {
	testCheck(t, []checkCase{
		{">0;", fairway.OK, 0},
		{">1;", fairway.ErrState, 0},
		{">1;>0;", fairway.OK, 0},
		{">0;>01;>3;>4;", fairway.ErrState, 3},
		{">012345;>5;", fairway.ErrState, 0},
		{">0;>5;", fairway.ErrState, 1},
		{">;>;>;>;>5;", fairway.ErrState, 4},
		{">;>;>;>;>;>5;", fairway.OK, 0},
	})
}

// What is no graph is told ahead of a next state that there is not.
func TestCheckNamesErrGraphFirst(t *testing.T) {
	testCheck(t, []checkCase{
		{">3;x", fairway.ErrGraph, 4},
		{">5;>5", fairway.ErrGraph, 5},
		{">1;;", fairway.ErrGraph, 3},
	})
}

var (
	marksOfAState = "a?b?c?d?e?f?g?h?i?j?k?l?m?n?o?p?q?r?s?t?u?v?w?x?y?z?"
	graphPattern  = regexp.MustCompile("^(?:" + marksOfAState + ">0?1?2?3?4?5?;){1,6}$")
)

// beginsGraph tells whether some graph begins with this text: if so, one of
// the shortest endings makes it one.
func beginsGraph(text string) bool {
	for _, ending := range []string{"", ";", ">;"} {
		if graphPattern.MatchString(text + ending) {
			return true
		}
	}
	return false
}

// wantCheck tells what Check must answer, by a pattern and by trying out how
// far a text may still become a graph.
func wantCheck(text string) checkCase {
	if !graphPattern.MatchString(text) {
		end := 0
		for end < len(text) && beginsGraph(text[:end+1]) {
			end++
		}
		return checkCase{text, fairway.ErrGraph, end}
	}
	states := strings.SplitAfter(strings.TrimSuffix(text, ";"), ";")
	for number, state := range states {
		for digit := len(states); digit < 6; digit++ {
			if strings.ContainsRune(state, rune('0'+digit)) {
				return checkCase{text, fairway.ErrState, number}
			}
		}
	}
	return checkCase{text, fairway.OK, 0}
}

func TestCheckAllShortTexts(t *testing.T) {
	for _, text := range allTexts("az>01;", 5) {
		testCheck(t, []checkCase{wantCheck(text)})
	}
}

func TestCheckChangedTexts(t *testing.T) {
	for _, whole := range []string{"p>01;q>2;>0;", "az>05;>;>;b>1234;>;>3;", ">;>;>;>;>;>;"} {
		for _, text := range changedTexts(whole) {
			testCheck(t, []checkCase{wantCheck(text)})
		}
	}
}
