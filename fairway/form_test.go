package fairway_test

import (
	"regexp"
	"strings"
	"testing"

	"fairway/fairway"
)

type formCase struct {
	formula string
	err     fairway.Errno
	where   int
}

func testForm(t *testing.T, cases []formCase) {
	t.Helper()
	for _, c := range cases {
		err, where := fairway.Form(c.formula)
		if err != c.err || where != c.where {
			t.Errorf("Form(%.60q) = %d, %d, want %d, %d", c.formula, err, where, c.err, c.where)
		}
	}
}

func TestFormExamples(t *testing.T) {
	testForm(t, []formCase{
		{"E[pUq]", fairway.OK, 0},
		{"E[pUq", fairway.ErrFormula, 5},
		{"(p&q+r)", fairway.ErrFormula, 4},
		{"EXEXEXEXp", fairway.ErrNest, 0},
		{"pq", fairway.ErrFormula, 1},
	})
}

func TestFormEachKind(t *testing.T) {
	for _, formula := range []string{
		"T", "a", "t", "z", "!T", "!p", "!!p", "(p&q)", "(p+q)",
		"EXp", "E[pUq]", "E[pRq]", "AXp", "A[pUq]", "A[pRq]",
		"(!T&(p+EX!q))", "A[E[pUq]R(T&AXT)]",
	} {
		testForm(t, []formCase{{formula, fairway.OK, 0}})
	}
}

func TestFormLength(t *testing.T) {
	testForm(t, []formCase{
		{strings.Repeat("!", 29) + "p", fairway.OK, 0},
		{strings.Repeat("!", 30) + "p", fairway.ErrLong, 0},
		{strings.Repeat("!", 30), fairway.ErrFormula, 30},
		{strings.Repeat("(", 30), fairway.ErrFormula, 30},
		{strings.Repeat("(", 31), fairway.ErrLong, 0},
		{strings.Repeat("x", 30), fairway.ErrFormula, 1},
		{strings.Repeat("x", 31), fairway.ErrLong, 0},
		{strings.Repeat("EX", 15) + "p", fairway.ErrLong, 0},
		{strings.Repeat("\xff", 31), fairway.ErrLong, 0},
		{strings.Repeat("(", 3000000), fairway.ErrLong, 0},
		{strings.Repeat("!", 3000000), fairway.ErrLong, 0},
	})
}

func TestFormEndsTooEarly(t *testing.T) {
	for _, whole := range []string{"E[pUq]", "A[!pR(q&T)]", "((p+q)&!AXr)", "!EXAX!p"} {
		for end := 0; end < len(whole); end++ {
			testForm(t, []formCase{{whole[:end], fairway.ErrFormula, end}})
		}
	}
}

func TestFormBytesThatCannotStand(t *testing.T) {
	testForm(t, []formCase{
		{"U", fairway.ErrFormula, 0},
		{"X", fairway.ErrFormula, 0},
		{"`", fairway.ErrFormula, 0},
		{"{", fairway.ErrFormula, 0},
		{" p", fairway.ErrFormula, 0},
		{"p ", fairway.ErrFormula, 1},
		{"p\x00", fairway.ErrFormula, 1},
		{"\u00e9", fairway.ErrFormula, 0},
		{"(p)", fairway.ErrFormula, 2},
		{"()", fairway.ErrFormula, 1},
		{"(pUq)", fairway.ErrFormula, 2},
		{"(p&q]", fairway.ErrFormula, 4},
		{"E[p&q]", fairway.ErrFormula, 3},
		{"E[pXq]", fairway.ErrFormula, 3},
		{"E[pUq)", fairway.ErrFormula, 5},
		{"E(pUq)", fairway.ErrFormula, 1},
		{"EUp", fairway.ErrFormula, 1},
		{"AAp", fairway.ErrFormula, 1},
		{"E[pUq]]", fairway.ErrFormula, 6},
		{"!p!", fairway.ErrFormula, 2},
	})
}

func TestFormNest(t *testing.T) {
	testForm(t, []formCase{
		{"EXAXEXp", fairway.OK, 0},
		{"EXAXEXAXp", fairway.ErrNest, 0},
		{"!EX!!AX!EX!!p", fairway.OK, 0},
		{"!EX!!AX!EX!!EXp", fairway.ErrNest, 0},
		{"E[pUA[pRE[qUr]]]", fairway.OK, 0},
		{"E[pUA[pRE[qUEXr]]]", fairway.ErrNest, 0},
		{"E[A[E[qUr]Rp]Up]", fairway.OK, 0},
		{"E[A[E[EXqUr]Rp]Up]", fairway.ErrNest, 0},
		{"(EXEXEXp&(AXAXAXp+EXEXEXp))", fairway.OK, 0},
		{"(p&(AXAXAXAXp+q))", fairway.ErrNest, 0},
		{"(EXEXEXEXp&q)", fairway.ErrNest, 0},
		{"EX(p&AX(q+EX(r&!AXs)))", fairway.ErrNest, 0},
	})
}

// What is no formula is told ahead of a nest that is too deep.
func TestFormNamesErrFormulaFirst(t *testing.T) {
	testForm(t, []formCase{
		{"EXEXEXEX", fairway.ErrFormula, 8},
		{"EXEXEXEXpq", fairway.ErrFormula, 9},
		{"(EXEXEXEXp&)", fairway.ErrFormula, 11},
	})
}

var (
	wholePattern = regexp.MustCompile(`!p|\(p[&+]p\)|[EA]Xp|[EA]\[p[UR]p\]`)
	openPattern  = regexp.MustCompile(`^(?:!|[EA]X|\((?:p[&+])?|[EA]\[(?:p[UR])?)*(?:p|[EA])?$`)
)

// shrunk is a text in which every whole formula has become the letter p.
func shrunk(text string) string {
	letters := []byte(text)
	for i, b := range letters {
		if b == 'T' || b >= 'a' && b <= 'z' {
			letters[i] = 'p'
		}
	}
	text = string(letters)
	for {
		shorter := wholePattern.ReplaceAllLiteralString(text, "p")
		if shorter == text {
			return text
		}
		text = shorter
	}
}

// wantForm tells what Form must answer to a text that is not too long, by
// shrinking it, and its beginnings, from the inside out.
func wantForm(text string) formCase {
	if shrunk(text) != "p" {
		end := 0
		for end < len(text) && openPattern.MatchString(shrunk(text[:end+1])) {
			end++
		}
		return formCase{text, fairway.ErrFormula, end}
	}
	if nestOf(text) > 3 {
		return formCase{text, fairway.ErrNest, 0}
	}
	return formCase{text, fairway.OK, 0}
}

var (
	plainPattern = regexp.MustCompile(`![Tp0-9]|\([Tp0-9][&+][Tp0-9]\)`)
	waysPattern  = regexp.MustCompile(`[EA]X[Tp0-9]|[EA]\[[Tp0-9][UR][Tp0-9]\]`)
)

// nestOf tells the nest of a formula of the letter p, at most 9, by putting
// the digit of its nest in the place of each whole part.
func nestOf(formula string) int {
	deepest := func(part string) byte {
		most := byte('0')
		for i := range len(part) {
			if part[i] >= '0' && part[i] <= '9' && part[i] > most {
				most = part[i]
			}
		}
		return most
	}
	for len(formula) > 1 {
		formula = plainPattern.ReplaceAllStringFunc(formula, func(part string) string {
			return string(deepest(part))
		})
		formula = waysPattern.ReplaceAllStringFunc(formula, func(part string) string {
			return string(deepest(part) + 1)
		})
	}
	return int(deepest(formula) - '0')
}

func TestFormAllShortTexts(t *testing.T) {
	for _, text := range allTexts("Tp!(&+)EAX[UR]", 4) {
		testForm(t, []formCase{wantForm(text)})
	}
}

func TestFormChangedTexts(t *testing.T) {
	for _, whole := range []string{
		"E[pUA[pRE[TUp]]]", "(EXAX!EXp+(!!p&T))", "A[(EXp&AXp)R!E[pRT]]", "!EXEXEXEXp",
	} {
		for _, text := range changedTexts(whole) {
			if !strings.ContainsAny(text, "abcdefghijklmnoqrstuvwxyz0123456789") {
				testForm(t, []formCase{wantForm(text)})
			}
		}
	}
}
