package rulebook_test

import (
	"math"
	"strconv"
	"strings"
	"testing"
	"time"

	"rulebook/rulebook"
)

const noway = "n(A):-v(A),!p(A).p(A):-e(A,B).?n."

func wantRun(t *testing.T, program, facts string, budget int, text string, n int) {
	t.Helper()
	got, gotN, e := rulebook.Run(program, facts, budget)
	if got != text || gotN != n || e != rulebook.OK {
		t.Errorf("Run(%.200q, %.200q, %d) = %q, %d, %d, want %q, %d, OK", program, facts, budget, got, gotN, e, text, n)
	}
}

func wantRunError(t *testing.T, program, facts string, budget int, e rulebook.Errno) {
	t.Helper()
	got, gotN, gotE := rulebook.Run(program, facts, budget)
	if got != "" || gotN != 0 || gotE != e {
		t.Errorf("Run(%.200q, %.200q, %d) = %q, %d, %d, want error %d", program, facts, budget, got, gotN, gotE, e)
	}
}

// wantNumber holds a number of tuples against the budget: it is enough, and one less is not.
func wantNumber(t *testing.T, program, facts, text string, n int) {
	t.Helper()
	wantRun(t, program, facts, n, text, n)
	if n < 200 {
		wantRun(t, program, facts, n+1, text, n)
	}
	if n > 0 {
		wantRunError(t, program, facts, n-1, rulebook.ErrMany)
	}
}

func TestRunDocumentExamples(t *testing.T) {
	wantRun(t, way, "e(1,2).e(2,3).", 200, "p(1,2).p(1,3).p(2,3).", 3)
	wantRunError(t, way, "e(1,2).e(2,3).", 2, rulebook.ErrMany)
	wantRun(t, noway, "v(2).v(10).v(1).e(1,2).", 9, "n(2).n(10).", 3)
}

func TestRunRulesThatUseThemselves(t *testing.T) {
	circle := "p(1,1).p(1,2).p(1,3).p(2,1).p(2,2).p(2,3).p(3,1).p(3,2).p(3,3)."
	wantNumber(t, way, "e(1,2).e(2,3).e(3,1).", circle, 9)
	wantNumber(t, "?p.p(A,B):-p(A,C),p(C,B).p(B,A):-e(B,A).", "e(1,2).e(2,3).e(3,1).", circle, 9)
	wantNumber(t, "p(A):-p(A).?p.", "", "", 0)
	wantNumber(t, "p(A):-q(A).q(A):-p(A).p(4).?q.?p.", "", "q(4).p(4).", 2)
	wantNumber(t, "a(0).b(B):-a(A),n(A,B).a(B):-b(A),n(A,B).?b.?a.", "n(0,1).n(1,2).n(2,3).n(3,4).", "b(1).b(3).a(0).a(2).a(4).", 5)
	// Each new tuple needs two that came at different times.
	wantNumber(t, "f(0,1).f(1,1).f(C,C):-f(A,X),f(B,Y),s(A,B,C).?f.", "s(0,1,2).s(1,2,3).s(2,3,4).s(0,4,5).s(9,5,6).", "f(0,1).f(1,1).f(2,2).f(3,3).f(4,4).f(5,5).", 6)
}

func TestRunNegated(t *testing.T) {
	wantNumber(t, "p(1):-!e(1).p(2):-!e(2).?p.", "e(2).", "p(1).", 1)
	wantNumber(t, "p(A):-e(A),!e(A).?p.", "e(2).", "", 0)
	wantNumber(t, "p(A,B):-e(A,B),!e(B,A).?p.", "e(1,1).e(1,2).e(2,1).e(3,2).", "p(3,2).", 1)
	wantNumber(t, "p(A,B):-v(A),v(B),!e(A,B),!e(B,A).?p.", "v(1).v(2).v(3).e(1,1).e(2,3).e(3,3).", "p(1,2).p(1,3).p(2,1).p(2,2).p(3,1).", 5)
	wantNumber(t, "p(A):-v(A),w(B),!e(A,B,7).?p.", "v(1).v(2).w(5).w(6).e(1,5,7).e(1,6,7).e(2,5,7).e(2,6,8).", "p(2).", 1)
	wantNumber(t, "p(1):-v(A),v(B),v(C),!e(A,B,C).?p.", "v(0).v(1).e(0,0,0).e(0,0,1).e(0,1,0).e(0,1,1).e(1,0,0).e(1,0,1).e(1,1,0).", "p(1).", 1)
	wantNumber(t, "p(1):-v(A),v(B),v(C),!e(A,B,C).?p.", "v(0).v(1).e(0,0,0).e(0,0,1).e(0,1,0).e(0,1,1).e(1,0,0).e(1,0,1).e(1,1,0).e(1,1,1).", "", 0)
	// Strata that stand in the program from the highest to the lowest.
	wantNumber(t, "d(A):-v(A),!c(A).c(A):-v(A),!b(A).b(A):-v(A),!a(A).a(A):-v(A),e(A).?a.?b.?c.?d.", "v(1).v(2).e(1).", "a(1).b(2).c(1).d(2).", 4)
	// As many strata above 0 as there are items.
	chain, names := "", "abcdefghijklmnopq"
	for i := 0; i < 16; i++ {
		chain += names[i+1:i+2] + "(1):-!" + names[i:i+1] + "(1)."
		wantNumber(t, chain, "", "", i/2+1)
		wantNumber(t, chain, "a(1).", "", (i+1)/2)
	}
	// What is not so is known only behind the last round of the stratum below.
	wantNumber(t, "n(A,B):-v(A),v(B),!p(A,B)."+way+"?n.", "v(1).v(4).e(1,2).e(2,3).e(3,4).", "p(1,2).p(1,3).p(1,4).p(2,3).p(2,4).p(3,4).n(1,1).n(4,1).n(4,4).", 9)
}

func TestRunTerms(t *testing.T) {
	wantNumber(t, "p(B,A,9):-e(A,1,B).?p.", "e(5,1,6).e(5,2,7).", "p(6,5,9).", 1)
	wantNumber(t, "p(A):-e(A,B,A).?p.", "e(1,2,1).e(1,1,2).e(2,1,1).e(3,3,3).", "p(1).p(3).", 2)
	wantNumber(t, "p(A):-e(A,A,A).?p.", "e(1,2,1).e(1,1,2).e(2,1,1).e(3,3,3).", "p(3).", 1)
	wantNumber(t, "p(A,A):-e(A,B).?p.", "e(1,2).e(2,7).", "p(1,1).p(2,2).", 2)
	wantNumber(t, "p(A):-e(A,B),f(B,A).?p.", "e(1,2).e(2,1).e(3,4).f(2,1).f(1,3).f(4,4).", "p(1).", 1)
	wantNumber(t, "p(0,999).?p.", "", "p(0,999).", 1)
	wantNumber(t, "p(A):-e(A),e(999),!e(0).?p.", "e(999).e(998).", "p(998).p(999).", 2)
	wantNumber(t, "p(1):-e(1,2),f(3).?p.", "e(1,2).f(3).", "p(1).", 1)
	wantNumber(t, "p(1):-e(1,2),f(3).?p.", "e(2,1).f(3).", "", 0)
	wantNumber(t, "p(1):-e(1,2),f(3).?p.", "e(1,2).f(4).", "", 0)
	// Pairs agree in each variable alone, but no two tuples agree in both.
	wantNumber(t, "p(A,B):-e(A,B),f(A,B).?p.", "e(1,1).e(2,2).f(1,2).f(2,1).", "", 0)
	wantNumber(t, "p(1):-e(A,B),f(A,B),g(C).?p.", "e(1,1).e(2,2).f(1,2).f(2,1).g(1).g(2).", "", 0)
	wantNumber(t, "p(A):-e(A,B),e(B,C),e(C,A).?p.", "e(1,2).e(2,3).e(3,4).e(4,1).e(5,6).e(6,7).e(7,5).", "p(5).p(6).p(7).", 3)
}

// TestRunApart has literals that fall into two groups with nothing in common: the rule follows if both hold.
func TestRunApart(t *testing.T) {
	yes := "e(1,1).e(2,2).f(1,2).f(2,2)."
	no := "g(1,1).g(2,2).g(3,3).h(1,2).h(2,3).h(3,1)."
	wantNumber(t, "p(1):-e(A,B),f(A,B),g(C,D),h(C,D).?p.", yes+no, "", 0)
	wantNumber(t, "p(1):-g(C,D),h(C,D),e(A,B),f(A,B).?p.", yes+no, "", 0)
	wantNumber(t, "p(A):-e(A,B),f(A,B),g(C,D),h(C,D).?p.", yes+no, "", 0)
	wantNumber(t, "p(1):-e(A,B),f(A,B),g(C,D),h(C,D).?p.", yes+no+"g(3,1).", "p(1).", 1)
	wantNumber(t, "p(A,C):-e(A,B),f(A,B),g(C,D),h(C,D).?p.", yes+no+"g(3,1).", "p(2,3).", 1)
	nots := "v(1).v(2).v(3).x(1,1).x(1,2).x(1,3).x(2,1).x(2,2).x(2,3).x(3,1).x(3,2)."
	wantNumber(t, "p(1):-e(A,B),f(A,B),v(C),v(D),!x(C,D).?p.", yes+nots, "p(1).", 1)
	wantNumber(t, "p(1):-e(A,B),f(A,B),v(C),v(D),!x(C,D).?p.", yes+nots+"x(3,3).", "", 0)
	wantNumber(t, "p(A,C):-e(A,B),f(A,B),v(C),v(D),!x(C,D).?p.", yes+nots, "p(2,3).", 1)
	wantNumber(t, "p(A,C):-e(A,B),f(A,B),v(C),v(D),!x(C,D).?p.", yes+nots+"x(3,3).", "", 0)
}

func TestRunOutputs(t *testing.T) {
	facts := "e(2).e(1).f(7,8)."
	wantNumber(t, "p(A):-e(A).q(3).", facts, "", 3)
	wantNumber(t, "p(A):-e(A).q(3).?q.", facts, "q(3).", 3)
	wantNumber(t, "?p.p(A):-e(A).?q.?p.q(3).?q.?p.", facts, "p(1).p(2).q(3).", 3)
	wantNumber(t, "?q.?p.p(A):-e(A).?q.?p.q(3).", facts, "q(3).p(1).p(2).", 3)
	wantNumber(t, "?f.?none.?e.?f.", facts, "f(7,8).e(1).e(2).", 0)
	wantNumber(t, "p(A):-f(A,B).?g.?f.", facts, "f(7,8).", 1)
	wantNumber(t, "", facts, "", 0)
	wantNumber(t, "", "", "", 0)
}

// TestRunSameTuple asks for tuples that come in several ways: each counts once.
func TestRunSameTuple(t *testing.T) {
	wantNumber(t, "p(1).p(1).p(A):-e(A,B).p(B):-e(A,B).?p.?e.", "e(1,2).e(2,1).e(1,2).e(1,1).", "p(1).p(2).e(1,1).e(1,2).e(2,1).", 2)
	wantNumber(t, "?e.", strings.Repeat("e(7).", 80), "e(7).", 0)
}

func TestRunOrderOfTuples(t *testing.T) {
	wantRun(t, "?e.", "e(100).e(20).e(3).e(0).e(999).e(30).e(99).", 0, "e(0).e(3).e(20).e(30).e(99).e(100).e(999).", 0)
	wantRun(t, "?e.", "e(2,1).e(1,10).e(1,9).e(10,0).e(0,10).", 0, "e(0,10).e(1,9).e(1,10).e(2,1).e(10,0).", 0)
	wantRun(t, "?e.", "e(1,1,2).e(1,0,30).e(0,9,9).e(1,0,4).e(1,1,1).e(0,10,0).", 0, "e(0,9,9).e(0,10,0).e(1,0,4).e(1,0,30).e(1,1,1).e(1,1,2).", 0)
	wantRun(t, "p(B,A):-e(A,B).?p.", "e(1,12).e(2,3).e(3,12).e(4,1).", 4, "p(1,4).p(3,2).p(12,1).p(12,3).", 4)
}

// numbered is the facts e(from). up to e(to).
func numbered(from, to int) string {
	facts := ""
	for n := from; n <= to; n++ {
		facts += "e(" + strconv.Itoa(n) + ")."
	}
	return facts
}

func TestRunManyTuples(t *testing.T) {
	pairs := "p(A,B):-e(A),f(B)."
	tens := numbered(0, 9) + strings.ReplaceAll(numbered(0, 19), "e", "f")
	text := ""
	for a := 0; a < 10; a++ {
		for b := 0; b < 20; b++ {
			text += "p(" + strconv.Itoa(a) + "," + strconv.Itoa(b) + ")."
		}
	}
	wantNumber(t, pairs+"?p.", tens, text, 200)
	wantRunError(t, pairs+"q(1).", tens, 200, rulebook.ErrMany)
	wantRunError(t, "q(A):-p(A,9),g(9)."+pairs, tens+"g(9).", 200, rulebook.ErrMany)
	wantRunError(t, "p(A,B,C):-e(A),e(B),e(C).", numbered(0, 67), 200, rulebook.ErrMany)
	wantRunError(t, "n(1):-!p(1,1)."+pairs, tens, 199, rulebook.ErrMany)
	// The tuples of all ruled predicates count together, those of given ones do not.
	wantNumber(t, "a(A):-e(A).b(A):-e(A).c(A):-e(A).?c.", numbered(1, 66), strings.ReplaceAll(numbered(1, 66), "e", "c"), 198)
	wantRunError(t, "a(A):-e(A).b(A):-e(A).c(A):-e(A).?c.", numbered(1, 67), 200, rulebook.ErrMany)
	wantNumber(t, "?e.", numbered(0, 66), numbered(0, 66), 0)
}

func TestRunBudget(t *testing.T) {
	for _, budget := range []int{-1, -2, -200, 201, 202, 1000, math.MaxInt, math.MinInt, math.MaxInt32, math.MinInt32, 1 << 32} {
		wantRunError(t, way, "", budget, rulebook.ErrArg)
		wantRunError(t, "", "", budget, rulebook.ErrArg)
		wantRunError(t, "p(1).", "", budget, rulebook.ErrArg)
	}
	for budget := 0; budget <= 200; budget++ {
		wantRun(t, way, "", budget, "", 0)
		if budget < 3 {
			wantRunError(t, way, "e(1,2).e(2,3).", budget, rulebook.ErrMany)
		} else {
			wantRun(t, way, "e(1,2).e(2,3).", budget, "p(1,2).p(1,3).p(2,3).", 3)
		}
	}
}

func TestRunLengths(t *testing.T) {
	for n := 598; n <= 603; n++ {
		program := ofLength(t, n)
		if n > 600 {
			wantRunError(t, program, "", 200, rulebook.ErrLong)
		} else {
			wantRun(t, program, "", 200, "aaaaaa(100,200,300).", 1)
		}
	}
	for n := 398; n <= 403; n++ {
		facts := strings.Repeat("e(1).", 70)
		facts += strings.Repeat("e(12).", n%5) + strings.Repeat("e(1).", (n-350-6*(n%5))/5)
		if len(facts) != n {
			t.Fatalf("the test's facts have %d bytes, not %d", len(facts), n)
		}
		if n > 400 {
			wantRunError(t, "?e.", facts, 0, rulebook.ErrLong)
		} else if n%5 == 0 {
			wantRun(t, "?e.", facts, 0, "e(1).", 0)
		} else {
			wantRun(t, "?e.", facts, 0, "e(1).e(12).", 0)
		}
	}
}

// TestRunFirstError lays each error beside each that is named behind it: the first of them is told.
func TestRunFirstError(t *testing.T) {
	long := strings.Repeat("?p.", 201)
	programs := []struct {
		text string
		e    rulebook.Errno
	}{
		{long, rulebook.ErrLong}, {"p(", rulebook.ErrForm}, {"p(1).p(A,B).", rulebook.ErrTerms}, {"p(A):-!p(A).", rulebook.ErrUnsafe},
		{"p(1):-!p(1).", rulebook.ErrNot}, {"p(1).q(A):-e(A).", rulebook.OK},
	}
	budgets := []struct {
		n int
		e rulebook.Errno
	}{{-1, rulebook.ErrArg}, {201, rulebook.ErrArg}, {0, rulebook.ErrMany}}
	facts := []struct {
		text string
		e    rulebook.Errno
	}{
		{strings.Repeat("e(1).", 81), rulebook.ErrLong}, {strings.Repeat("#", 401), rulebook.ErrLong},
		{"p(1,2).p(1).e(1)", rulebook.ErrFacts}, {"e(1,2).p(1).p(A).", rulebook.ErrFacts},
		{"p(1).e(1,2).", rulebook.ErrTerms}, {"p(1).z(1).z(1,2).", rulebook.ErrTerms}, {"p(1,2).", rulebook.ErrTerms},
		{"e(1).p(1).", rulebook.ErrRuled}, {"e(1).", rulebook.OK},
	}
	for _, p := range programs {
		for _, b := range budgets {
			for _, f := range facts {
				e := rulebook.ErrMany
				if f.e != rulebook.OK {
					e = f.e
				}
				if b.e == rulebook.ErrArg {
					e = rulebook.ErrArg
				}
				if p.e != rulebook.OK {
					e = p.e
				}
				if f.e == rulebook.ErrLong {
					e = rulebook.ErrLong
				}
				wantRunError(t, p.text, f.text, b.n, e)
			}
		}
	}
}

// TestRunNothingInCommon has rules whose literals have nothing in common, or little, with many tuples for each. Whoever tries
// all of them does not come to an end: here each must do so at once.
func TestRunNothingInCommon(t *testing.T) {
	many := numbered(0, 67)
	some := numbered(0, 13)
	pairs := "r(A,B):-e(A),e(B)."
	for _, c := range []struct {
		program, facts, text string
		n                    int
	}{
		{"p(1):-e(A),e(B),e(C),e(D),e(E).?p.", many, "p(1).", 1},
		{"p(1):-e(A),e(B),e(C),e(D),f(E).?p.", many, "", 0},
		{"p(1):-e(A),e(B),e(C),e(D),e(99).?p.", many, "", 0},
		{"p(1):-f(E),e(A),e(B),e(C),e(D).?p.", many, "", 0},
		{"p(A):-e(B),e(C),e(D),e(E),e(A).?p.", many, strings.ReplaceAll(many, "e", "p"), 68},
		{"p(1):-e(A),e(B),e(C),e(D),!e(A).?p.", many, "", 0},
		{"p(1):-e(A),e(B),e(C),!e(99),!e(C).?p.", many, "", 0},
		{"p(7):-e(A),e(B),e(C),!f(A,B,C),!f(C,B,A).?p.", numbered(0, 50) + "f(1,2,3).f(3,2,1).f(0,0,0).", "p(7).", 1},
		{pairs + "p(1):-r(A,B),r(C,D),r(E,F),r(G,H),r(I,J).?p.", some, "p(1).", 197},
		{pairs + "p(1):-r(A,B),r(C,D),r(E,F),r(G,H),r(I,14).?p.", some, "", 196},
		{pairs + "p(1):-r(A,B),r(C,D),r(E,F),!r(A,D),!f(B,C,E).?p.", some, "", 196},
		{pairs + "p(1):-r(A,B),r(C,D),r(E,F),!f(B,C,E),!r(A,E).?p.", some, "", 196},
		{pairs + "p(1):-r(A,B),r(C,D),r(E,F),r(G,H),!r(D,G).?p.", some, "", 196},
		{pairs + "p(1):-r(A,B),r(B,C),r(C,D),r(D,E),r(E,F).?p.", some, "p(1).", 197},
		{pairs + "p(1):-r(A,B),r(B,C),r(C,D),r(D,E),f(A,E).?p.", some + "f(1,14).f(14,1).", "", 196},
		{pairs + "p(1):-r(A,B),r(A,C),r(A,D),r(A,E),r(A,F).?p.", some, "p(1).", 197},
		{pairs + "p(1):-r(A,B),r(B,C),r(C,A),f(D,E),f(E,D).?p.", some + "f(1,2).f(2,3).f(3,1).", "", 196},
		{"r(A,1):-e(A).p(1):-r(A,B),r(C,D),r(E,F),!f(A,C,E),!g(B,D,F).?p.", numbered(0, 50) + "g(1,1,1).", "", 51},
		{"p(1):-e(A),q(B),e(C),q(D),e(E).q(A):-e(A).q(2):-p(1),e(F).?p.", many, "p(1).", 69},
	} {
		from := time.Now()
		wantRun(t, c.program, c.facts, 200, c.text, c.n)
		if took := time.Since(from); took > 5*time.Second {
			t.Errorf("Run(%q, ..) took %v", c.program, took)
		}
	}
}
