package fairway_test

import (
	"regexp"
	"strings"
	"testing"

	"fairway/fairway"
)

type pushCase struct {
	formula string
	pushed  string
	err     fairway.Errno
}

func testPush(t *testing.T, cases []pushCase) {
	t.Helper()
	for _, c := range cases {
		pushed, err := fairway.Push(c.formula)
		if pushed != c.pushed || err != c.err {
			t.Errorf("Push(%.60q) = %q, %d, want %q, %d", c.formula, pushed, err, c.pushed, c.err)
		}
	}
}

func TestPushExamples(t *testing.T) {
	testPush(t, []pushCase{
		{"!E[pU!q]", "A[!pRq]", fairway.OK},
		{"!(T&!AXp)", "(!T+AXp)", fairway.OK},
		{"!AXp", "EX!p", fairway.OK},
	})
}

// Each row of the table, with parts that change when they are pushed.
func TestPushTable(t *testing.T) {
	testPush(t, []pushCase{
		{"T", "T", fairway.OK},
		{"p", "p", fairway.OK},
		{"!T", "!T", fairway.OK},
		{"!p", "!p", fairway.OK},
		{"!!p", "p", fairway.OK},
		{"!!!T", "!T", fairway.OK},
		{"(!!p&!!q)", "(p&q)", fairway.OK},
		{"!(!p&q)", "(p+!q)", fairway.OK},
		{"(!!p+!!q)", "(p+q)", fairway.OK},
		{"!(p+!q)", "(!p&q)", fairway.OK},
		{"EX!!p", "EXp", fairway.OK},
		{"!EX!p", "AXp", fairway.OK},
		{"AX!!p", "AXp", fairway.OK},
		{"!AX!p", "EXp", fairway.OK},
		{"E[!!pU!!q]", "E[pUq]", fairway.OK},
		{"!E[!pUq]", "A[pR!q]", fairway.OK},
		{"E[!!pR!!q]", "E[pRq]", fairway.OK},
		{"!E[pR!q]", "A[!pUq]", fairway.OK},
		{"A[!!pU!!q]", "A[pUq]", fairway.OK},
		{"!A[!pUq]", "E[pR!q]", fairway.OK},
		{"A[!!pR!!q]", "A[pRq]", fairway.OK},
		{"!A[pR!q]", "E[!pUq]", fairway.OK},
	})
}

func TestPushNegationsWithin(t *testing.T) {
	testPush(t, []pushCase{
		{"!((p&q)+E[TU!AXr])", "((!p+!q)&A[!TRAXr])", fairway.OK},
		{"EX!AX!EXp", "EXEXEXp", fairway.OK},
		{"!EX!AX!EX!p", "AXAXAXp", fairway.OK},
		{"A[!(p+q)R!!T]", "A[(!p&!q)RT]", fairway.OK},
		{"!(p&!(q&!(r&!s)))", "(!p+(q&(!r+s)))", fairway.OK},
	})
}

// A pushed formula may have more bytes than a formula.
func TestPushLength(t *testing.T) {
	testPush(t, []pushCase{
		{strings.Repeat("!", 29) + "p", "!p", fairway.OK},
		{strings.Repeat("!", 28) + "p", "p", fairway.OK},
		{"!(((((((a&b)&c)&d)&e)&f)&g)&h)", "(((((((!a+!b)+!c)+!d)+!e)+!f)+!g)+!h)", fairway.OK},
		{"!(a&(b&(c&(d&(e&(f&(g&h)))))))", "(!a+(!b+(!c+(!d+(!e+(!f+(!g+!h)))))))", fairway.OK},
	})
}

func TestPushErrors(t *testing.T) {
	testPush(t, []pushCase{
		{strings.Repeat("!", 30) + "p", "", fairway.ErrLong},
		{strings.Repeat("(", 3000000), "", fairway.ErrLong},
		{"", "", fairway.ErrFormula},
		{"(p", "", fairway.ErrFormula},
		{"pq", "", fairway.ErrFormula},
		{"!", "", fairway.ErrFormula},
		{"\xff\x00", "", fairway.ErrFormula},
		{"EXEXEXEXp", "", fairway.ErrNest},
		{"!!EXEXEXEXp", "", fairway.ErrNest},
	})
}

// negated is the formula that the table tells for N(f), of a pushed f: with
// the negations ahead of the letters alone, each sign can be exchanged where
// it stands.
func negated(pushed string) string {
	opposites := strings.NewReplacer("&", "+", "+", "&", "U", "R", "R", "U", "E", "A", "A", "E", "!", "")
	var out strings.Builder
	for i := range len(pushed) {
		b := pushed[i]
		if (b == 'T' || b >= 'a' && b <= 'z') && (i == 0 || pushed[i-1] != '!') {
			out.WriteByte('!')
		}
		out.WriteString(opposites.Replace(string(b)))
	}
	return out.String()
}

var farNegation = regexp.MustCompile(`!([^Ta-z]|$)`)

func TestPushAllShortFormulas(t *testing.T) {
	tried := 0
	for _, formula := range formulasOf(10) {
		pushed, err := fairway.Push(formula)
		if err == fairway.ErrNest {
			continue
		}
		tried++
		if err != fairway.OK || farNegation.MatchString(pushed) {
			t.Errorf("Push(%q) = %q, %d is not pushed", formula, pushed, err)
		}
		if !strings.Contains(formula, "!") && pushed != formula {
			t.Errorf("Push(%q) = %q, want the same", formula, pushed)
		}
		testPush(t, []pushCase{
			{pushed, pushed, fairway.OK},
			{"!" + formula, negated(pushed), fairway.OK},
		})
	}
	if tried < 1000 {
		t.Errorf("%d formulas were tried, want more", tried)
	}
}

// formulasOf are the formulas of T and p with at most so many bytes.
func formulasOf(most int) []string {
	byLength := make([][]string, most+1)
	all := []string{}
	for length := 1; length <= most; length++ {
		byLength[length] = formulasOfLength(byLength, length)
		all = append(all, byLength[length]...)
	}
	return all
}

func formulasOfLength(shorter [][]string, length int) []string {
	if length == 1 {
		return []string{"T", "p"}
	}
	made := []string{}
	for _, ahead := range []string{"!", "EX", "AX"} {
		if part := length - len(ahead); part > 0 {
			for _, f := range shorter[part] {
				made = append(made, ahead+f)
			}
		}
	}
	for _, signs := range [][3]string{
		{"(", "&", ")"}, {"(", "+", ")"},
		{"E[", "U", "]"}, {"E[", "R", "]"}, {"A[", "U", "]"}, {"A[", "R", "]"},
	} {
		parts := length - len(signs[0]) - 2
		for left := 1; left < parts; left++ {
			for _, f := range shorter[left] {
				for _, g := range shorter[parts-left] {
					made = append(made, signs[0]+f+signs[1]+g+signs[2])
				}
			}
		}
	}
	return made
}
