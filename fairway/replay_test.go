package fairway_test

import (
	"math"
	"slices"
	"strings"
	"testing"

	"fairway/fairway"
)

type replayCase struct {
	graph, fair, formula string
	state                int
	cert                 string
	yes                  bool
}

// testReplay also looks at what is shown: it must hold by Solve (P9).
func testReplay(t *testing.T, cases []replayCase) {
	t.Helper()
	for _, c := range cases {
		yes, err := fairway.Replay(c.graph, c.fair, c.formula, c.state, c.cert)
		if yes != c.yes || err != fairway.OK {
			t.Errorf("Replay(%q, %q, %q, %d, %.90q) = %v, %d, want %v", c.graph, c.fair, c.formula, c.state, c.cert, yes, err, c.yes)
		}
		if yes {
			testHolds(t, c)
		}
	}
}

func testHolds(t *testing.T, c replayCase) {
	t.Helper()
	text, err := fairway.Solve(c.graph, c.fair, c.formula)
	if err != fairway.OK || text[c.state] != '1' {
		t.Errorf("Solve(%q, %q, %q) = %q, %d, but %.90q shows it in %d", c.graph, c.fair, c.formula, text, err, c.cert, c.state)
	}
}

// replays are certificates and texts that are none, for one claim.
type replays struct {
	graph, fair, formula string
	state                int
	yes                  []string
	no                   []string
}

func testReplays(t *testing.T, all []replays) {
	t.Helper()
	for _, r := range all {
		for _, cert := range r.yes {
			testReplay(t, []replayCase{{r.graph, r.fair, r.formula, r.state, cert, true}})
		}
		for _, cert := range r.no {
			testReplay(t, []replayCase{{r.graph, r.fair, r.formula, r.state, cert, false}})
		}
	}
}

func TestReplayExamples(t *testing.T) {
	testReplays(t, []replays{
		{example, "", "E[!TRp]", 0, []string{"[(0)],.o", "[0(0)],.,.o"}, []string{"[0(0)],.o", "[(012)],.,.,.o"}},
		{example, "q", "E[!TRp]", 0, nil, []string{"[(0)],.o"}},
		{example, "q", "E[pUq]", 0, []string{"[(012)],.-.", "[0(012)],.,.-."}, []string{"[01(0)],.-."}},
		{example, "", "EX(q&!p)", 0, []string{"[(012)]&.."}, []string{"[(0)]&.."}},
		{example, "", "!AXp", 0, []string{"[(012)]."}, nil},
	})
	testReplayError(t, example, "", "AXp", 0, "[(012)].", fairway.ErrAll)
}

func TestReplayLeaves(t *testing.T) {
	none := []string{"", "..", ". ", " .", "-", "x", "p", "T", "&..", "<.", "[(0)]."}
	testReplays(t, []replays{
		{example, "", "T", 0, []string{"."}, none},
		{example, "", "T", 2, []string{"."}, none},
		{example, "", "!T", 0, nil, append(none, ".")},
		{example, "", "p", 0, []string{"."}, none},
		{example, "", "p", 1, nil, append(none, ".")},
		{example, "", "z", 0, nil, append(none, ".")},
		{example, "", "!p", 1, []string{"."}, none},
		{example, "", "!p", 0, nil, append(none, ".")},
		{"abz>;", "", "a", 0, []string{"."}, none},
		{"abz>;", "", "z", 0, []string{"."}, none},
		{"abz>;", "", "!b", 0, nil, append(none, ".")},
		{"abz>;", "", "!c", 0, []string{"."}, none},
		// Marks are there whether a fair way goes from the state or not.
		{example, "z", "p", 0, []string{"."}, none},
		{example, "z", "!q", 0, []string{"."}, none},
	})
}

func TestReplayBothAndOneOf(t *testing.T) {
	testReplays(t, []replays{
		{example, "", "(p&!q)", 0, []string{"&.."}, []string{"", "&", "&.", "..", "&...", "&..&", "<.", ">.", "<..", "&.o", "&o.", "(.&.)", "&..."}},
		{example, "", "(p&q)", 0, nil, []string{"&..", "&.", "."}},
		{example, "", "(q&p)", 0, nil, []string{"&..", "&.", "."}},
		{example, "", "(p+q)", 0, []string{"<."}, []string{">.", "", "<", ">", ".", "<..", "<.>.", "&..", "+.", "<<.", "<-"}},
		{example, "", "(p+q)", 1, []string{">."}, []string{"<.", ">", ">..", ".", ">>."}},
		{example, "", "(p+q)", 2, nil, []string{"<.", ">.", "."}},
		{example, "", "(p+!q)", 0, []string{"<.", ">."}, []string{"<>.", "&.."}},
		{example, "", "(p&(T&!q))", 0, []string{"&.&.."}, []string{"&&...", "&..", "&.&.", "&.&..."}},
		{example, "", "((p&T)&!q)", 0, []string{"&&..."}, []string{"&.&..", "&&.."}},
		{example, "", "((q+p)+q)", 0, []string{"<>."}, []string{"<<.", ">.", "><."}},
		{example, "", "(q+(q+p))", 0, []string{">>."}, []string{"><.", "<.", "<>."}},
		{example, "", "((p+q)&(q+p))", 0, []string{"&<.>."}, []string{"&>.<.", "&<.<.", "&>.>.", "<.>.", "&<.>"}},
		{example, "", "((p&q)+(p&T))", 0, []string{">&.."}, []string{"<&..", "&<.>.", ">.."}},
	})
}

func TestReplayNext(t *testing.T) {
	testReplays(t, []replays{
		{example, "", "EXp", 0, []string{"[(0)].", "[0(0)].", "[(00)].", "[00(120)]."}, []string{"[(012)].", "", ".", "[(0)]", "[(0)]..", "[(0)],.", "[(0)]-.", "[(0)]o", "[(0)].o", "[(0)][(0)]."}},
		{example, "", "EXq", 0, []string{"[(012)].", "[0(120)].", "[01(201)].", "[012(0)]."}, []string{"[(0)].", "[(0012)].", "[0(012)]."}},
		{example, "", "EXp", 2, []string{"[2(0)].", "[(201)].", "[20(0)]."}, []string{"[(0)].", "[2(2)].", "[(2)]."}},
		{example, "", "EXq", 2, nil, []string{"[2(0)].", "[(201)].", "[(12)]."}},
		{example, "q", "EXp", 0, []string{"[(0012)].", "[00(120)]."}, []string{"[(0)].", "[0(0)]."}},
		{example, "", "EXEXq", 0, []string{"[(0)][(012)].", "[(0012)][0(120)]."}, []string{"[(012)][(120)].", "[(0)][(0)].", "[(0)]."}},
		{example, "", "EX(p+q)", 0, []string{"[(0)]<.", "[(012)]>."}, []string{"[(0)]>.", "[(012)]<.", "<[(0)].", "[(0)]."}},
		{example, "", "(EXp&EXq)", 0, []string{"&[(0)].[(012)]."}, []string{"&[(012)].[(0)].", "[(0)].[(012)].", "&[(0)]..", "[(0)]&.."}},
		{"p>;", "", "EXp", 0, nil, []string{"[(0)].", "[0()].", "[0]."}},
		{"p>1;q>;", "", "EXq", 0, nil, []string{"[0(1)].", "[(01)].", "[01()].", "[01]."}},
	})
}

func TestReplayUntil(t *testing.T) {
	testReplays(t, []replays{
		{example, "", "E[pUq]", 0, []string{"[(012)],.-.", "[00(012)],.,.,.-.", "[01(201)],.-."}, []string{
			"", "[(012)]", "[(012)],", "[(012)],.", "[(012)],.-", "[(012)]-.", "[(012)].-.", "[(012)],-.",
			"[(012)],..", "[(012)],.,.", "[(012)],.o", "[(012)],.o.", "[(012)],.-..", "[(012)],.-.o", "[(012)],.-.,",
			"[(012)],.,.-.", "[(012)],.-.-.", "[(012)];.-.", "[(012)],.+.", "[(012)],x-.", "[(012)],.-x", ",.-.", "(012),.-.",
			"[(0)],.-.", "[00(12)],.,.-.",
		}},
		{example, "", "E[pUp]", 0, []string{"[(0)]-.", "[0(0)],.-.", "[(012)]-."}, []string{"[(0)],.-.", "[(0120)],.,.,.-.", "[(0)].", "[(0)],.", "[(0)]o", "[(0)],.o"}},
		{example, "", "E[(p+q)U!p]", 0, []string{"[(012)],<.-.", "[(012)],<.,>.-."}, []string{"[(012)],>.-.", "[(012)],<.,<.-.", "[(012)]-.", "[(012)],<.,>.,.-.", "[(012)],<.,>.-<."}},
		{example, "", "E[TUE[pUq]]", 2, []string{"[(201)],.-[(012)],.-.", "[(201)],.,.-[(120)]-."}, []string{"[(201)]-[(201)]-.", "[(201)],.-[(120)]-.", "[(201)],.-,.-."}},
		{example, "", "E[EXTUq]", 0, []string{"[(012)],[(0)].-."}, []string{"[(012)],.-.", "[(012)],[(1)].-.", "[(012)],[(120)].-."}},
	})
}

func TestReplayRelease(t *testing.T) {
	testReplays(t, []replays{
		{example, "", "E[!TRp]", 0, []string{"[(0)],.o", "[0(0)],.,.o", "[00(00)],.,.,.,.o"}, []string{
			"", "o", "[(0)]", "[(0)],", "[(0)],.", "[(0)]o", "[(0)],o", "[(0)].o", "[(0)],.o.", "[(0)],.oo", "[(0)],.o,",
			"[(0)],.O", "[(0)],.0", "[(0)],.-", "[(0)],.-.", "[(0)]-.", "[(0)],.,.o", "[(00)],.o", "[0(0)],.,.,.o", "[(0)];.o",
			",.o", "[0(12)],.,.,.o", "[(012)],.o", "[(012)],.,.,.o",
		}},
		{example, "", "E[pRp]", 0, []string{"[(0)],.-.", "[(0)],.o", "[(012)],.-.", "[0(0)],.-.", "[0(0)],.,.-."}, []string{
			"[(0)]-.", "[(0)],.,.-.", "[(012)]-.", "[(012)],.", "[(012)],.-", "[(012)],.-..", "[(012)],.-.o", "[(012)],.o-.", "[(012)],.,.-.", "[(012)],..",
		}},
		{example, "", "E[qR(p+q)]", 0, []string{"[(012)],<.,>.-.", "[0(012)],<.,<.,>.-.", "[(0)],<.o"}, []string{
			"[(012)],<.-.", "[(012)],<.,>.o", "[(012)],<.,<.-.", "[(012)],<.,>.,<.-.", "[(012)]-.", "[(012)],>.,<.-.", "[(0)],<.-.",
		}},
		{example, "", "E[!qRT]", 0, []string{"[(012)],.,.,.-.", "[(012)],.-.", "[(012)],.,.,.o"}, []string{"[(012)],.,.-.", "[(012)],.,.o", "[(012)],.,.,.,.-.", "[(012)],.,.,.,.o"}},
		{example, "", "E[(p&T)Rp]", 0, []string{"[(0)],.-&.."}, []string{"[(0)],&..-.", "[(0)],.-.", "[(0)],.-&."}},
		{example, "", "E[!TREXT]", 0, []string{"[(0)],[(0)].o", "[0(0)],[(0)].,[(012)].o"}, []string{"[(0)],.o", "[(0)],[(1)].o", "[(0)],[(0)]o"}},
		{example, "", "E[!TRE[TUq]]", 0, []string{"[(012)],[(012)],.-.,[(120)]-.,[(201)],.,.-.o"}, []string{"[(012)],[(012)],.-.,[(120)]-.,[(012)],.-.o"}},
		{"p>01;pq>01;", "", "E[!TRp]", 1, []string{"[(10)],.,.o", "[1(0)],.,.o"}, []string{"[(01)],.,.o", "[0(1)],.,.o", "[1(0)],.o"}},
	})
}

// R asks for its right part at place k too, U for its left part below it
// alone.
func TestReplayPlaceThatSettles(t *testing.T) {
	testReplays(t, []replays{
		{"q>1;p>1;", "", "E[pRq]", 0, nil, []string{"[0(1)],.-.", "[0(1)],.,.-.", "[0(1)],.,.o", "[0(1)],.o"}},
		{"q>1;pq>2;>2;", "", "E[pRq]", 0, []string{"[01(2)],.,.-."}, []string{"[01(2)],.-.", "[01(2)],.,.,.-.", "[01(2)],.,.o", "[01(2)],.,.,.o"}},
		{"p>1;q>1;", "", "E[pUq]", 0, []string{"[0(1)],.-."}, []string{"[0(1)],.,.-.", "[0(1)]-."}},
		{"p>1;>2;q>2;", "", "E[pUq]", 0, nil, []string{"[01(2)],.-.", "[01(2)],.,.-.", "[01(2)]-."}},
	})
}

// k at place 0, at the last listed place, and behind it. The last listed
// place is once ahead of "(" and once not the only one behind it.
func TestReplayListedPlaces(t *testing.T) {
	testReplays(t, []replays{
		{"pq>0;", "", "E[pUq]", 0, []string{"[(0)]-.", "[0(0)]-.", "[0(0)],.-.", "[(00)],.-."}, []string{"[(0)],.-.", "[0(0)],.,.-.", "[(00)],.,.-.", "[(00)],.,.,.-."}},
		{"pq>0;", "", "E[qRp]", 0, []string{"[(0)],.-.", "[0(0)],.-.", "[0(0)],.,.-.", "[(00)],.,.-."}, []string{"[(0)]-.", "[(0)],.,.-.", "[0(0)],.,.,.-.", "[(00)],.,.,.-."}},
		{"pq>0;", "", "E[qRp]", 0, []string{"[(0)],.o", "[0(0)],.,.o", "[(00)],.,.o"}, []string{"[(0)]o", "[(0)],.,.o", "[0(0)],.o", "[0(0)],.,.,.o"}},
		{"p>1;p>2;q>0;", "", "E[pUq]", 0, []string{"[(012)],.,.-."}, []string{"[(012)],.-.", "[(012)],.,.,.-.", "[(012)]-."}},
		{"q>1;q>2;pq>0;", "", "E[pRq]", 0, []string{"[(012)],.,.,.-.", "[(012)],.,.,.o"}, []string{"[(012)],.,.-.", "[(012)],.,.,.,.-.", "[(012)],.,.,.,.o"}},
		// The place that settles it is the fourth, which is like place 0.
		{"p>1;q>0;", "", "E[TUp]", 1, []string{"[1(01)],.-.", "[(10)],.-."}, []string{"[(10)],.,.,.-.", "[1(01)],.,.,.-."}},
	})
}

func TestReplayLassos(t *testing.T) {
	testReplays(t, []replays{
		{example, "", "EXT", 0, []string{
			"[(0)].", "[0(0)].", "[(00)].", "[(012)].", "[(0012)].", "[0(120)].", "[0(012)].", "[01(201)].", "[012(0)].", "[0120(0)].",
		}, []string{
			// none between the round brackets, or nothing in all
			"[0()].", "[()].", "[].", "[0].", "[012()].",
			// a bracket missing, too many, or another
			"(0)].", "[0)].", "[(0].", "[(0).", "[(0)]", "[[(0)].", "[((0)].", "[((0))].", "[(0))].", "[(0)]].", "((0)).", "[[0]].", "{(0)}.", "(0).", "0.", "[(0)(0)].", "[)0(].",
			// something that is no digit, or a digit behind the round brackets
			"[(0,0)].", "[(0 )].", "[ (0)].", "[(-0)].", "[(0)0].", "[(o)].", "[0,(0)].", "[(0)],", "[(0)\x00].", "[(\xff)].", "[(\xb0)].",
			// a digit that is no state's
			"[(3)].", "[(03)].", "[0(3)].", "[03(0)].", "[(6)].", "[(9)].", "[(0/)].", "[(0:)].", "[(012345)].",
			// a step that is no edge: ahead, between, within, and round
			"[02(0)].", "[0(20)].", "[(021)].", "[(01)].", "[01(0)].", "[(0121)].", "[01(20)].", "[01(2012)].", "[0(12)].", "[012(1)].", "[012(2)].",
			// another first state
			"[(1)].", "[(120)].", "[1(20)].", "[2(0)].", "[(201)].",
		}},
		{example, "", "EXT", 1, []string{"[(120)].", "[12(0)].", "[1(201)]."}, []string{"[(1)].", "[1(20)].", "[1(2)].", "[(012)].", "[1(0)]."}},
		{"p>1;>0;", "", "EXT", 0, []string{"[(01)].", "[0(10)].", "[01(01)]."}, []string{"[(0)].", "[0(1)].", "[01(0)].", "[01(1)].", "[(012)].", "[(2)]."}},
	})
}

// A lasso that lists one place alone: its place 1 is that state again.
func TestReplayOnePlace(t *testing.T) {
	testReplays(t, []replays{
		{"p>01;q>1;", "", "EXp", 0, []string{"[(0)]."}, []string{"[0(1)].", "[0].", "[0()].", "[(0)]..", "[(1)]."}},
		{"p>01;q>1;", "", "EXq", 0, []string{"[0(1)]."}, []string{"[(0)].", "[(01)]."}},
		{"p>01;q>1;", "", "E[!TRp]", 0, []string{"[(0)],.o"}, []string{"[(0)],.,.o", "[(0)]o"}},
		{"p>01;q>1;", "", "E[pUp]", 0, []string{"[(0)]-."}, []string{"[(0)],.-."}},
		{"p>1;q>0;", "", "EXT", 0, nil, []string{"[(0)]."}},
	})
}

func TestReplayFairMarks(t *testing.T) {
	testReplays(t, []replays{
		{example, "q", "EXT", 0, []string{"[(012)].", "[01(201)].", "[0(120)]."}, []string{"[(0)].", "[012(0)].", "[0120(0)].", "[01(2012)]."}},
		{example, "pq", "EXT", 1, []string{"[(120)].", "[12(0012)]."}, []string{"[12(0)]."}},
		{example, "p", "EXT", 1, []string{"[(120)].", "[12(0)]."}, nil},
		{example, "qz", "EXT", 1, nil, []string{"[(120)].", "[12(0)]."}},
		{example, "az", "EXT", 1, nil, []string{"[(120)].", "[12(0)]."}},
		// Two fair marks in one state, in two states, and one of the two ahead of the round brackets alone.
		{"fg>0;f>1;g>2;", "fg", "EXT", 0, []string{"[(0)]."}, nil},
		{"fg>0;f>1;g>2;", "fg", "EXT", 1, nil, []string{"[(1)]."}},
		{"fg>0;f>1;g>2;", "fg", "EXT", 2, nil, []string{"[(2)]."}},
		{"f>01;g>01;", "fg", "EXT", 0, []string{"[(01)].", "[0(10)].", "[01(01)]."}, []string{"[0(1)].", "[01(0)].", "[(0)].", "[10(0)]."}},
		// The fair end may lie behind the places that settle it.
		{"p>01;f>1;", "f", "E[pUp]", 0, []string{"[0(1)]-.", "[00(1)],.-."}, []string{"[(0)]-."}},
		{"p>01;f>1;", "f", "E[pRp]", 0, []string{"[0(1)],.-."}, []string{"[0(1)],.,.o", "[(0)],.o"}},
		// The lassos of parts have to be fair too.
		{"p>01;f>1;", "f", "EXEXT", 0, []string{"[0(1)][(1)].", "[00(1)][0(1)]."}, []string{"[00(1)][(0)].", "[(0)][0(1)]."}},
	})
}

// lassosOf are the lassos of one state with so many digits, with each number
// of them ahead of the round bracket.
func lassosOf(count int) []string {
	lassos := []string{}
	for ahead := range count {
		lassos = append(lassos, "["+strings.Repeat("0", ahead)+"("+strings.Repeat("0", count-ahead)+")]")
	}
	return lassos
}

func TestReplayLongestLassos(t *testing.T) {
	const one = "pq>0;"
	for count := 38; count <= 43; count++ {
		fits := count <= 40
		each := strings.Repeat(",.", count)
		for _, way := range lassosOf(count) {
			testReplay(t, []replayCase{
				{one, "p", "EXp", 0, way + ".", fits},
				{one, "p", "E[pUq]", 0, way + "-.", fits},
				{one, "p", "E[pUq]", 0, way + each[2:] + "-.", fits},
				{one, "p", "E[pUq]", 0, way + each + "-.", false},
				{one, "p", "E[!TRp]", 0, way + each + "o", fits},
				{one, "p", "E[!TRp]", 0, way + each[2:] + "o", false},
				{one, "p", "E[!TRp]", 0, way + each + ",.o", false},
				{one, "p", "E[qRp]", 0, way + ",.-.", fits},
				{one, "p", "E[qRp]", 0, way + each + "-.", fits},
				{one, "p", "E[qRp]", 0, way + each + ",.-.", false},
			})
		}
	}
	for _, count := range []int{80, 256, 296, 1000000} {
		zeros := strings.Repeat("0", count)
		testReplay(t, []replayCase{
			{one, "", "EXp", 0, "[(" + zeros + ")].", false},
			{one, "", "EXp", 0, "[" + zeros + "(0)].", false},
		})
	}
}

// The certificate is one for the pushed formula, not for the formula.
func TestReplayNotPushed(t *testing.T) {
	testReplays(t, []replays{
		{example, "", "!!p", 0, []string{"."}, []string{"..", ""}},
		{example, "", "!!!p", 1, []string{"."}, nil},
		{example, "", "!!!p", 0, nil, []string{"."}},
		{example, "", "!!T", 0, []string{"."}, nil},
		{example, "", "!(p&!q)", 1, []string{"<.", ">."}, []string{"&..", "."}},
		{example, "", "!(p&!q)", 0, nil, []string{"<.", ">.", "&.."}},
		{example, "", "!(p+q)", 2, []string{"&.."}, []string{"<.", ">."}},
		{example, "", "!!(T&(p+T))", 0, []string{"&.>.", "&.<."}, []string{"&..", "<."}},
		{example, "", "!AXp", 0, []string{"[(012)]."}, []string{"[(0)]."}},
		{example, "", "!A[!pR!q]", 0, []string{"[(012)],.-."}, []string{"[(012)]-.", "[(0)],.o", "[(012)],.,.-."}},
		{example, "", "!A[TU!p]", 0, []string{"[(0)],.o"}, []string{"[(0)],.-.", "[(0)]-."}},
		{example, "", "!A[!pUq]", 0, []string{"[(0)],.o", "[(0)],.-.", "[(012)],.-."}, []string{"[(012)],.,.-.", "[(0)]-."}},
		{example, "", "!A[!pU!q]", 1, nil, []string{"[1(201)],.-."}},
		{example, "", "EX!AX!q", 0, []string{"[(0)][(012)]."}, []string{"[(0)][(0)].", "[(0)]."}},
		{example, "", "!AX!E[TUq]", 0, []string{"[(0)][(012)],.-."}, nil},
		{"h>0;", "", "!(((((((a&b)&c)&d)&e)&f)&g)&h)", 0, []string{"<<<<<<<.", "<<<<<<>."}, []string{">.", "<<<<<<<<."}},
	})
}

func testReplayError(t *testing.T, graph, fair, formula string, state int, cert string, want fairway.Errno) {
	t.Helper()
	yes, err := fairway.Replay(graph, fair, formula, state, cert)
	if yes || err != want {
		t.Errorf("Replay(%.60q, %.60q, %.60q, %d, %.60q) = %v, %d, want false, %d", graph, fair, formula, state, cert, yes, err, want)
	}
}

func TestReplayStates(t *testing.T) {
	six := strings.Repeat("p>0;", 6)
	for _, state := range []int{math.MinInt, math.MinInt + 1, -256, -2, -1, 3, 4, 6, 256, 1 << 32, math.MaxInt} {
		testReplayError(t, example, "", "p", state, ".", fairway.ErrArg)
		testReplayError(t, example, "", "AXp", state, ".", fairway.ErrArg)
		if state < 0 || state > 5 {
			testReplayError(t, six, "", "p", state, ".", fairway.ErrArg)
		}
	}
	for state := range 6 {
		testReplay(t, []replayCase{{six, "", "p", state, ".", true}})
	}
	testReplayError(t, "p>0;", "", "p", 1, ".", fairway.ErrArg)
}

// An A anywhere in the pushed formula, whatever the certificate shows.
func TestReplayAll(t *testing.T) {
	for _, formula := range []string{
		"AXp", "A[pUq]", "A[pRq]", "!EXp", "!E[pUq]", "!E[pRq]", "!!AXp", "(p+AXq)", "(AXq+p)", "(p&!EXq)",
		"E[AXpUq]", "E[pUAXq]", "E[pRA[pUq]]", "EXEXAXp", "!AXEXp", "!A[pUEXp]", "A[TUT]", "!(AXp&EXq)",
	} {
		for _, cert := range []string{"", ".", "<.", ">.", "[(0)],.o", "[(012)],.-."} {
			testReplayError(t, example, "", formula, 0, cert, fairway.ErrAll)
		}
	}
	for _, formula := range []string{"!AXp", "!A[pUq]", "!A[pRq]", "!!EXp", "EX!AXp", "!(AXp&!EXq)", "!AX!E[TUq]"} {
		testReplay(t, []replayCase{{example, "", formula, 0, "", false}})
	}
}

func TestReplayFirstError(t *testing.T) {
	type text struct {
		text string
		err  fairway.Errno
	}
	type number struct {
		number int
		err    fairway.Errno
	}
	graphs := []text{{strings.Repeat("p", 211), fairway.ErrLong}, {"p>0", fairway.ErrGraph}, {">1;", fairway.ErrState}, {"p>0;", fairway.OK}}
	fairs := []text{{"abc", fairway.ErrFair}, {"ba", fairway.ErrFair}, {"p", fairway.OK}}
	formulas := []text{
		{strings.Repeat("!", 31), fairway.ErrLong}, {"EX", fairway.ErrFormula}, {"AXAXAXAXp", fairway.ErrNest},
		{"(p+AXp)", fairway.ErrAll}, {"(p+EXp)", fairway.OK},
	}
	states := []number{{-1, fairway.ErrArg}, {1, fairway.ErrArg}, {0, fairway.OK}}
	certs := []text{{strings.Repeat("<", 4000001), fairway.ErrLong}, {"<.", fairway.OK}}
	for _, graph := range graphs {
		for _, fair := range fairs {
			for _, formula := range formulas {
				for _, state := range states {
					for _, cert := range certs {
						errs := []fairway.Errno{graph.err, fair.err, formula.err, state.err, cert.err}
						if formula.err == fairway.ErrAll {
							errs = []fairway.Errno{graph.err, fair.err, state.err, formula.err, cert.err}
						}
						want := firstError(errs...)
						if want != fairway.OK {
							testReplayError(t, graph.text, fair.text, formula.text, state.number, cert.text, want)
							continue
						}
						testReplay(t, []replayCase{{graph.text, fair.text, formula.text, state.number, cert.text, true}})
					}
				}
			}
		}
	}
}

func TestReplayLongCertificates(t *testing.T) {
	for _, c := range []struct{ formula, begin string }{
		{"p", "."}, {"p", "&"}, {"(p&p)", "&"}, {"(p+p)", "<"}, {"E[!TRp]", "[(0)],."}, {"EXp", "[(0"}, {"E[pUE[pUEXp]]", "[(0)]-"},
	} {
		long := c.begin + strings.Repeat(c.begin[len(c.begin)-1:], 4000001-len(c.begin))
		testReplayError(t, "p>0;", "", c.formula, 0, long, fairway.ErrLong)
		testReplayError(t, "p>0;", "", c.formula, 0, long+long, fairway.ErrLong)
		testReplay(t, []replayCase{{"p>0;", "", c.formula, 0, long[:4000000], false}})
	}
}

// The greatest certificate that this formula has is read to its last byte.
func TestReplayGreatCertificate(t *testing.T) {
	way := "[" + strings.Repeat("0", 39) + "(0)]"
	inner := way + strings.Repeat(",&.&..", 40) + "-."
	middle := way + strings.Repeat(","+inner, 40) + "-."
	outer := way + strings.Repeat(","+middle, 40)
	const formula = "E[pRE[pRE[pR(p&(p&p))]]]"
	testReplays(t, []replays{
		{"p>0;", "p", formula, 0, []string{outer + "o", outer + "-."}, []string{outer, outer + "-", outer + "oo", outer[:len(outer)-1] + "o", outer + ",.o"}},
	})
}

// A certificate has no bytes to spare: each text that differs by one byte is
// judged by the words of the table.
func TestReplayChangedBytes(t *testing.T) {
	for _, c := range []replayCase{
		{example, "", "p", 0, ".", true},
		{example, "", "(p&!q)", 0, "&..", true},
		{example, "", "(p+q)", 1, ">.", true},
		{example, "q", "EX(q&!p)", 0, "[0(120)]&..", true},
		{example, "q", "E[pUq]", 0, "[0(012)],.,.-.", true},
		{example, "", "E[!TRp]", 0, "[0(0)],.,.o", true},
		{example, "", "E[qR(p+q)]", 0, "[(012)],<.,>.-.", true},
		{example, "", "!A[!qUA[pU!q]]", 1, "[1(201)],[(120)],.-.-.", true},
		{example, "", "E[!TRE[TUq]]", 0, "[(012)],[(012)],.-.,[(120)]-.,[(201)],.,.-.o", true},
	} {
		testReplay(t, []replayCase{c})
		for _, text := range changedTexts(c.cert) {
			testByTable(t, replayCase{graph: c.graph, fair: c.fair, formula: c.formula, state: c.state, cert: text})
		}
	}
}

// All short texts behind a beginning are judged by the words of the table.
func TestReplayAllTexts(t *testing.T) {
	for _, c := range []struct {
		graph, fair, formula, begin, letters string
		most                                 int
	}{
		{"pq>0;", "", "(p&(q+!T))", "", ".&<>-", 6},
		{"pq>0;", "", "EXp", "", "[(0)].", 7},
		{"p>01;q>1;", "q", "EXT", "[", "(01)].", 7},
		{"p>01;q>0;", "q", "EX(p+q)", "[0", "(01)].<>", 6},
		{"pq>0;", "", "E[pUq]", "[(0)]", ",.-o", 7},
		{"pq>0;", "", "E[pUq]", "[0(0)]", ",.-o", 7},
		{"pq>0;", "", "E[qRp]", "[(0)]", ",.-o", 7},
		{"pq>0;", "", "E[qRp]", "[0(0)]", ",.-o", 7},
		{"q>1;p>01;", "", "E[pUq]", "[(10)]", ",.-o", 7},
		{"q>1;pq>01;", "", "E[pRq]", "[(01)]", ",.-o", 8},
	} {
		for _, text := range allTexts(c.letters, c.most) {
			testByTable(t, replayCase{graph: c.graph, fair: c.fair, formula: c.formula, cert: c.begin + text})
		}
	}
}

// someFormulas speak of ways alone when they are pushed: each sign, over
// parts that hold in few states and in many, and within one another.
func someFormulas() []string {
	formulas := []string{"p", "(p+!q)", "(!p&(q+T))"}
	for _, formula := range wayFormulas() {
		pushed, _ := fairway.Push(formula)
		if !strings.Contains(pushed, "A") {
			formulas = append(formulas, formula)
		}
	}
	return append(formulas,
		"!AXp", "!A[pUq]", "!A[pRq]", "EXEXEXp", "E[E[pUq]UE[qRp]]", "E[EXpREX!p]", "(EXp&E[!pUq])", "(EXp+E[!TR!q])",
		"E[(p+q)U(!p&EXq)]", "E[(p&q)R(p+EXp)]", "!(AXp+A[!TU!q])", "E[!TRE[TUE[!TRp]]]", "EX!AX!E[pR(p+q)]")
}

// Certificates of many shapes, and what becomes of them when bytes change or
// when they are taken for another claim: P7 by the table, and P9.
func TestReplayMadeCertificates(t *testing.T) {
	var l lottery
	tried := 0
	for range 150 {
		graph := l.graph(1+l.below(4), 2)
		fair := []string{"", "", "f", "fg", "q"}[l.below(5)]
		world := worldOf(graph, fair)
		certs := []replayCase{}
		for _, formula := range someFormulas() {
			state := l.below(len(world.states))
			pushed, _ := fairway.Push(formula)
			cert, made := world.makeCert(&l, pushed, state)
			if made {
				certs = append(certs, replayCase{graph, fair, formula, state, cert, true})
			}
		}
		testReplay(t, certs)
		tried += len(certs)
		for _, c := range certs {
			for range 12 {
				changed := c
				changed.cert = l.changed(c.cert)
				testByTable(t, changed)
			}
			other := certs[l.below(len(certs))]
			other.cert = c.cert
			testByTable(t, other)
			c.state = l.below(len(world.states))
			testByTable(t, c)
		}
	}
	if tried < 1500 {
		t.Errorf("%d certificates were tried, want more", tried)
	}
}

// testByTable asks Replay about a text, and looks whether the table says the
// same.
func testByTable(t *testing.T, c replayCase) {
	t.Helper()
	pushed, err := fairway.Push(c.formula)
	if err != fairway.OK {
		t.Fatalf("%q is no formula", c.formula)
	}
	rests := worldOf(c.graph, c.fair).rests(pushed, c.state, c.cert)
	c.yes = slices.Contains(rests, "")
	testReplay(t, []replayCase{c})
}
