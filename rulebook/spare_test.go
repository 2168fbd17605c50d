package rulebook_test

import (
	"math"
	"math/rand"
	"strings"
	"testing"
	"time"

	"rulebook/rulebook"
)

func wantSpare(t *testing.T, program string, item, literal int, text string, e rulebook.Errno) {
	t.Helper()
	got, gotE := rulebook.Spare(program, item, literal)
	if got != text || gotE != e {
		t.Errorf("Spare(%.200q, %d, %d) = %q, %d, want %q, %d", program, item, literal, got, gotE, text, e)
	}
}

func TestSpareDocumentExamples(t *testing.T) {
	wantSpare(t, "p(A):-e(A,B),e(A,C).", 0, 0, "A,C,C", rulebook.OK)
	wantSpare(t, "p(A):-e(A,B),e(A,C).", 0, 1, "A,B,B", rulebook.OK)
	wantSpare(t, "p(A,B):-e(A,B),e(A,C).", 0, 0, "", rulebook.ErrNeeded)
	wantSpare(t, "p(A,B):-e(A,B),e(A,C).", 0, 1, "A,B,B", rulebook.OK)
	nots := "p(A):-e(A,B),e(A,C),!f(B),!f(C)."
	wantSpare(t, nots, 0, 0, "", rulebook.ErrNeeded)
	wantSpare(t, nots, 0, 1, "", rulebook.ErrNeeded)
	wantSpare(t, nots, 0, 2, "A,C,C", rulebook.OK)
	wantSpare(t, nots, 0, 3, "A,B,B", rulebook.OK)
}

// A printedRule is what a rule is as Print tells it, taken apart by its text alone.
type printedRule struct {
	head      string
	literals  []string
	variables string
	numbers   []string
}

func printedOf(rule string) printedRule {
	text := strings.TrimSuffix(wantedPrint(rule), ".")
	head, body, _ := strings.Cut(text, ":-")
	p := printedRule{head: head}
	for _, l := range strings.SplitAfter(body, "),") {
		p.literals = append(p.literals, strings.TrimSuffix(l, ","))
	}
	for _, c := range text {
		if c >= 'A' && c <= 'Z' && !strings.ContainsRune(p.variables, c) {
			p.variables += string(c)
		}
	}
	known := map[string]bool{}
	for _, n := range strings.FieldsFunc(text, func(c rune) bool { return c < '0' || c > '9' }) {
		if !known[n] {
			known[n] = true
			p.numbers = append(p.numbers, n)
		}
	}
	return p
}

// putAll puts texts for the variables of a text, all at once.
func (p printedRule) putAll(text string, put []string) string {
	out := ""
	for _, c := range text {
		at := strings.IndexRune(p.variables, c)
		if at >= 0 {
			out += put[at]
		} else {
			out += string(c)
		}
	}
	return out
}

func (p printedRule) others(literal int) []string {
	others := []string{}
	for i, l := range p.literals {
		if i != literal {
			others = append(others, l)
		}
	}
	return others
}

// shows tells whether a text that is put for the variables is as (1) of a spare literal asks.
func (p printedRule) shows(literal int, text string) bool {
	put := strings.Split(text, ",")
	if text == "" {
		put = nil
	}
	if len(put) != len(p.variables) || p.putAll(p.head, put) != p.head {
		return false
	}
	others := "," + strings.Join(p.others(literal), ",") + ","
	for _, l := range p.literals {
		if !strings.Contains(others, ","+p.putAll(l, put)+",") {
			return false
		}
	}
	for _, s := range put {
		number := len(s) > 0 && strings.Trim(s, "0123456789") == ""
		if !number && (len(s) != 1 || !strings.Contains(p.variables, s)) {
			return false
		}
	}
	return true
}

// any tells whether there is something to put that is as (1) of a spare literal asks: each variable and number of the rule is
// tried for each variable. No other could stand in a literal.
func (p printedRule) any(literal int, put []string) bool {
	if len(put) == len(p.variables) {
		return p.shows(literal, strings.Join(put, ","))
	}
	for _, s := range append(strings.Split(p.variables, ""), p.numbers...) {
		if p.any(literal, append(put, s)) {
			return true
		}
	}
	return false
}

// safeWithout is (2) of a spare literal.
func (p printedRule) safeWithout(literal int) bool {
	others := p.others(literal)
	bound := ""
	for _, l := range others {
		if l[0] != '!' {
			bound += l
		}
	}
	for _, c := range p.head + strings.Join(others, "") {
		if c >= 'A' && c <= 'Z' && !strings.ContainsRune(bound, c) {
			return false
		}
	}
	return true
}

// wantSpareShown holds an answer of which there may be several against what it must show.
func wantSpareShown(t *testing.T, rule string, literal int) {
	t.Helper()
	text, e := rulebook.Spare(rule, 0, literal)
	if e != rulebook.OK || !printedOf(rule).shows(literal, text) {
		t.Errorf("Spare(%q, 0, %d) = %q, %d: this does not show that the literal is spare", rule, literal, text, e)
	}
}

func TestSpareNames(t *testing.T) {
	wantSpare(t, "p(X):-e(X,Z),e(X,Y).", 0, 0, "A,C,C", rulebook.OK)
	wantSpare(t, "p(C):-e(C,B),e(C,A).", 0, 0, "A,C,C", rulebook.OK)
	wantSpare(t, "p(C):-e(C,B),e(C,A).", 0, 1, "A,B,B", rulebook.OK)
	wantSpare(t, "p(Z,Y):-e(Y,Z),e(X,Z).", 0, 1, "A,B,B", rulebook.OK)
	wantSpare(t, "p(1):-f(Z),e(Y),e(X),g(X),h(Z).", 0, 1, "A,C,C", rulebook.OK)
	wantSpare(t, "p(M):-q(M),q(M).", 0, 0, "A", rulebook.OK)
	wantSpare(t, "p(1):-e(Z,Y,X),f(W,V,U),g(T,S,R),h(Q,P,O),e(1,M,L).", 0, 0, "1,M,N,D,E,F,G,H,I,J,K,L,M,N", rulebook.OK)
	// Fifteen variables, the most that a safe rule has.
	wantSpare(t, "p(1):-e(Z,Y,X),f(W,V,U),g(T,S,R),h(Q,P,O),e(N,M,L).", 0, 4, "A,B,C,D,E,F,G,H,I,J,K,L,A,B,C", rulebook.OK)
	wantSpare(t, "p(1):-e(Z,Y,X),f(W,V,U),g(T,S,R),h(Q,P,O),e(N,M,L).", 0, 0, "M,N,O,D,E,F,G,H,I,J,K,L,M,N,O", rulebook.OK)
	wantSpare(t, "p(1):-e(Z,Y,X),f(W,V,U),g(T,S,R),h(Q,P,O),e(N,M,L).", 0, 2, "", rulebook.ErrNeeded)
}

func TestSpareNumbers(t *testing.T) {
	wantSpare(t, "p(Z):-e(Z,Y),e(Z,1).", 0, 0, "A,1", rulebook.OK)
	wantSpare(t, "p(Z):-e(Z,Y),e(Z,1).", 0, 1, "", rulebook.ErrNeeded)
	wantSpare(t, "p(1):-e(A,B),e(0,999).", 0, 0, "0,999", rulebook.OK)
	wantSpare(t, "p(1):-e(A,A),e(0,999).", 0, 0, "", rulebook.ErrNeeded)
	wantSpare(t, "p(1):-e(A,A),e(2,2).", 0, 0, "2", rulebook.OK)
	wantSpareShown(t, "p(1):-e(A,2),e(3,B),e(3,2).", 0)
	wantSpareShown(t, "p(1):-e(A,2),e(3,B),e(3,2).", 1)
	wantSpare(t, "p(1):-e(A,2),e(3,B),e(3,2).", 0, 2, "", rulebook.ErrNeeded)
	wantSpare(t, "p(1):-e(1),e(2).", 0, 0, "", rulebook.ErrNeeded)
	wantSpare(t, "p(1):-e(1),e(2).", 0, 1, "", rulebook.ErrNeeded)
	wantSpare(t, "p(1):-e(12),e(1).", 0, 0, "", rulebook.ErrNeeded)
	// The number of a variable's place in the alphabet is no variable.
	wantSpare(t, "p(A):-e(A),e(0).", 0, 0, "", rulebook.ErrNeeded)
	wantSpare(t, "p(A):-e(A),e(0).", 0, 1, "", rulebook.ErrNeeded)
	wantSpare(t, "p(1):-e(0),e(A).", 0, 1, "0", rulebook.OK)
	// Without variables the answer is empty, and OK all the same.
	wantSpare(t, "p(1):-q(2),q(2).", 0, 0, "", rulebook.OK)
	wantSpare(t, "p(1):-q(2),q(2).", 0, 1, "", rulebook.OK)
	wantSpare(t, "p(1):-!q(2),!q(2).", 0, 1, "", rulebook.OK)
}

func TestSpareHeadStays(t *testing.T) {
	wantSpare(t, "p(A):-e(A),e(B).", 0, 0, "", rulebook.ErrNeeded)
	wantSpare(t, "p(A):-e(A),e(B).", 0, 1, "A,A", rulebook.OK)
	wantSpare(t, "p(A,B):-e(A,B),e(B,A).", 0, 0, "", rulebook.ErrNeeded)
	wantSpare(t, "p(A,B,C):-e(A,B),e(B,C),e(A,C).", 0, 2, "", rulebook.ErrNeeded)
	wantSpareShown(t, "p(A,B):-e(A,C),e(D,B),e(A,B).", 0)
	wantSpareShown(t, "p(A,B):-e(A,C),e(D,B),e(A,B).", 1)
	wantSpare(t, "p(A,B):-e(A,C),e(D,B),e(A,B).", 0, 2, "", rulebook.ErrNeeded)
	wantSpare(t, "p(A):-e(A,1),e(A,B),e(2,B).", 0, 1, "", rulebook.ErrNeeded)
	// What was put for one variable stands in other literals too.
	wantSpare(t, "p(A):-e(A,B),f(B),e(A,C),f(C),g(C).", 0, 0, "A,C,C", rulebook.OK)
	wantSpare(t, "p(A):-e(A,B),f(B),e(A,C),f(C),g(C).", 0, 1, "A,C,C", rulebook.OK)
	wantSpare(t, "p(A):-e(A,B),f(B),e(A,C),f(C),g(C).", 0, 2, "", rulebook.ErrNeeded)
	wantSpare(t, "p(A):-e(A,B),f(B),e(A,C),f(C),g(C).", 0, 3, "", rulebook.ErrNeeded)
}

// TestSpareOtherThanIt has literals that could become the literal itself: none may, the literal itself among them.
func TestSpareOtherThanIt(t *testing.T) {
	wantSpare(t, "p(A):-e(A).", 0, 0, "", rulebook.ErrNeeded)
	wantSpare(t, "p(1):-e(A).", 0, 0, "", rulebook.ErrNeeded)
	wantSpare(t, "p(1):-e(1).", 0, 0, "", rulebook.ErrNeeded)
	wantSpare(t, "p(A):-e(A),f(A).", 0, 0, "", rulebook.ErrNeeded)
	wantSpare(t, "p(A):-e(A),f(A).", 0, 1, "", rulebook.ErrNeeded)
	wantSpare(t, "p(1):-e(A,B),e(B,A).", 0, 0, "", rulebook.ErrNeeded)
	wantSpare(t, "p(1):-e(A,B),e(B,C).", 0, 0, "", rulebook.ErrNeeded)
	wantSpare(t, "p(1):-e(A,B),e(B,C),e(C,A).", 0, 1, "", rulebook.ErrNeeded)
	wantSpare(t, "p(A):-e(A,A),e(A,B),e(B,A).", 0, 0, "", rulebook.ErrNeeded)
	wantSpare(t, "p(A):-e(A,A),e(A,B),e(B,A).", 0, 1, "A,A", rulebook.OK)
	wantSpare(t, "p(A):-e(A,A),e(A,B),e(B,A).", 0, 2, "A,A", rulebook.OK)
	// Another of the same text is one other than it.
	wantSpare(t, "p(A,B):-e(A,B),e(A,B).", 0, 0, "A,B", rulebook.OK)
	wantSpare(t, "p(A,B):-e(A,B),f(B),e(A,B).", 0, 2, "A,B", rulebook.OK)
	wantSpare(t, "p(A,B):-e(A,B),f(B),e(A,B).", 0, 1, "", rulebook.ErrNeeded)
	// The predicate is more than its first letter.
	wantSpare(t, "p(A):-e(A),ee(A).", 0, 0, "", rulebook.ErrNeeded)
	wantSpare(t, "p(A):-e(A),ee(A).", 0, 1, "", rulebook.ErrNeeded)
}

func TestSpareNegated(t *testing.T) {
	wantSpare(t, "p(A):-e(A),!e(A).", 0, 0, "", rulebook.ErrNeeded)
	wantSpare(t, "p(A):-e(A),!e(A).", 0, 1, "", rulebook.ErrNeeded)
	wantSpare(t, "p(A):-e(A),!f(A),!f(A).", 0, 0, "", rulebook.ErrNeeded)
	wantSpare(t, "p(A):-e(A),!f(A),!f(A).", 0, 1, "A", rulebook.OK)
	wantSpare(t, "p(A):-e(A),!f(A),!f(A).", 0, 2, "A", rulebook.OK)
	wantSpare(t, "p(A):-e(A),e(A),!e(A),!e(A).", 0, 0, "A", rulebook.OK)
	wantSpare(t, "p(A):-e(A),e(A),!e(A),!e(A).", 0, 3, "A", rulebook.OK)
	wantSpare(t, "p(A):-e(A),e(B),!f(B).", 0, 1, "", rulebook.ErrNeeded)
	wantSpare(t, "p(A):-e(A),e(B),!f(B),!f(A).", 0, 2, "A,A", rulebook.OK)
	wantSpare(t, "p(A):-e(A),e(B),!f(B),!f(A).", 0, 3, "", rulebook.ErrNeeded)
}

// TestSpareSafe has literals of which (1) holds, but (2) only where the variables that go stand in no negated literal alone.
func TestSpareSafe(t *testing.T) {
	wantSpare(t, "p(A):-e(A),e(B),!f(B),!f(A).", 0, 1, "", rulebook.ErrNeeded)
	wantSpare(t, "p(A):-e(A),e(B),g(B),g(A),!f(B).", 0, 1, "", rulebook.ErrNeeded)
	wantSpare(t, "p(A):-e(A,B),e(C,B),!f(A),!f(C).", 0, 1, "", rulebook.ErrNeeded)
	wantSpare(t, "p(A):-e(A,B),e(C,B),!f(A),!f(A).", 0, 1, "A,B,A", rulebook.OK)
	wantSpare(t, "p(1):-e(2,3),e(A,B),!f(B),!f(3).", 0, 1, "", rulebook.ErrNeeded)
	wantSpare(t, "p(1):-e(2,3),e(A,B),!f(3),!f(3).", 0, 1, "2,3", rulebook.OK)
	// The variable still stands in a literal that is not negated.
	wantSpareShown(t, "p(A):-e(A),e(B),e(B),!f(B),!f(A).", 1)
	wantSpareShown(t, "p(A):-e(A,B),e(A,C),f(C),f(B),!g(C).", 3)
	wantSpare(t, "p(A):-e(A,B),e(A,C),g(C),!f(B),!f(C).", 0, 0, "", rulebook.ErrNeeded)
	wantSpare(t, "p(A):-e(A,B),e(A,C),g(C),!f(B),!f(C).", 0, 3, "A,C,C", rulebook.OK)
}

// TestSpareSeveral has literals for which several things can be put: whichever is told must show it.
func TestSpareSeveral(t *testing.T) {
	for _, rule := range []string{
		"p(1):-e(A),e(B),e(C),e(D),e(E).", "p(1):-e(A,B,C),e(D,E,F),e(G,H,I),e(J,K,L),e(M,N,O).",
		"p(A):-e(A,B),e(A,C),e(A,D),e(A,E),e(A,F).", "p(1):-e(Z,Z),e(Z,Z),e(Z,Z).", "p(1):-e(Z,Y),e(Z,Y),e(Y,Z),e(Y,Z).",
		"p(X):-e(X,1),e(X,1),e(X,1),!e(X,1),!e(X,1).",
	} {
		for literal := range printedOf(rule).literals {
			wantSpareShown(t, rule, literal)
		}
	}
	// The first way for a literal is not the right one: e(A,B) must become the last.
	wantSpareShown(t, "p(1):-e(A,B),e(B,C),e(C,D),e(D,E),e(F,F).", 0)
	wantSpareShown(t, "p(1):-e(A,B),e(B,C),e(C,D),e(D,E),e(F,F).", 3)
	wantSpare(t, "p(1):-e(A,B),e(B,C),e(C,D),e(D,E),e(F,F).", 0, 4, "", rulebook.ErrNeeded)
	wantSpareShown(t, "p(1):-e(A,B),e(C,D),e(E,E),f(A,D),f(E,E).", 0)
	wantSpare(t, "p(1):-e(A,B),e(C,D),e(E,E),f(A,D),f(E,E).", 0, 3, "E,E,E,E,E", rulebook.OK)
	wantSpare(t, "p(1):-e(A,B),e(C,D),e(E,E),f(A,D),f(E,E).", 0, 2, "", rulebook.ErrNeeded)
}

func TestSpareItems(t *testing.T) {
	program := "?p.p(1).p(A):-e(A,B),e(A,C).?q.q(A,B):-e(A,B),e(A,B),!p(A)."
	wantSpare(t, program, 2, 0, "A,C,C", rulebook.OK)
	wantSpare(t, program, 2, 1, "A,B,B", rulebook.OK)
	wantSpare(t, program, 4, 0, "A,B", rulebook.OK)
	wantSpare(t, program, 4, 2, "", rulebook.ErrNeeded)
	for item, literals := range []int{0, 0, 2, 0, 3, 0} {
		for _, literal := range []int{literals, literals + 1, 5, 6, -1, -2, math.MaxInt, math.MinInt} {
			wantSpare(t, program, item, literal, "", rulebook.ErrArg)
		}
	}
	for _, item := range []int{5, 6, 16, 17, -1, -2, math.MaxInt, math.MinInt, math.MaxInt32, math.MinInt32} {
		wantSpare(t, program, item, 0, "", rulebook.ErrArg)
		wantSpare(t, program, item, item, "", rulebook.ErrArg)
		wantSpare(t, "", item, 0, "", rulebook.ErrArg)
	}
	wantSpare(t, "", 0, 0, "", rulebook.ErrArg)
	// The last literal of the last item.
	last := strings.Repeat("?p.", 15) + "p(1):-e(A),e(A),e(A),e(A),e(A)."
	wantSpare(t, last, 15, 4, "A", rulebook.OK)
	wantSpare(t, last, 15, 5, "", rulebook.ErrArg)
	wantSpare(t, last, 14, 4, "", rulebook.ErrArg)
	wantSpare(t, last, 16, 4, "", rulebook.ErrArg)
}

// wrongPrograms has programs that Check refuses, with the errors that are told ahead of those of the numbers.
var wrongPrograms = []struct {
	text string
	e    rulebook.Errno
}{
	{strings.Repeat("?p.", 201), rulebook.ErrLong}, {strings.Repeat("x", 601), rulebook.ErrLong}, {"p", rulebook.ErrForm},
	{"p(1):-e(1),e(1)", rulebook.ErrForm}, {"p(1):-e(1),e(1).p(1,2).", rulebook.ErrTerms}, {"p(1):-e(1),e(1).p(A).", rulebook.ErrUnsafe},
	{"p(1):-e(1),e(1).q(1):-!q(1).", rulebook.ErrNot},
}

func TestSpareFirstError(t *testing.T) {
	for _, p := range wrongPrograms {
		for _, item := range []int{-1, 0, 1, 16, math.MaxInt, math.MinInt} {
			for _, literal := range []int{-1, 0, 1, 5, math.MaxInt, math.MinInt} {
				wantSpare(t, p.text, item, literal, "", p.e)
			}
		}
	}
}

// makeSpareRule makes a rule whose literals are much alike, so that some are spare and some are not.
func makeSpareRule(r *rand.Rand) string {
	terms := []string{"X", "Y", "C", "A", "X", "Y", "C", "A", "7", "0"}[r.Intn(3):]
	kinds := []struct {
		name  string
		terms int
	}{{"e", 2}, {"f", 1}, {"g", 3}, {"e", 2}}[r.Intn(3):]
	it := madeItem{atoms: []madeAtom{{predicate: "p"}}}
	for n := 1 + r.Intn(2); n > 0; n-- {
		it.atoms[0].terms = append(it.atoms[0].terms, terms[r.Intn(len(terms))])
	}
	for n := 1 + r.Intn(5); n > 0; n-- {
		kind := kinds[r.Intn(len(kinds))]
		a := madeAtom{predicate: kind.name, negated: r.Intn(4) == 0}
		for len(a.terms) < kind.terms {
			a.terms = append(a.terms, terms[r.Intn(len(terms))])
		}
		it.atoms = append(it.atoms, a)
	}
	if r.Intn(2) == 0 {
		it = doubled(r, it)
	}
	return safely(it).String()
}

// doubled has the first two literals of a rule twice, in any order, the second time with another variable in place of one.
func doubled(r *rand.Rand, it madeItem) madeItem {
	body := it.atoms[1:min(len(it.atoms), 3)]
	from := []string{"X", "Y", "C", "A"}[r.Intn(4)]
	copies := putInto(madeItem{atoms: body}, from, "B").atoms
	out := madeItem{atoms: []madeAtom{it.atoms[0]}}
	all := append(append([]madeAtom{}, body...), copies...)
	for _, i := range r.Perm(len(all)) {
		out.atoms = append(out.atoms, all[i])
	}
	return out
}

func TestMadeSpare(t *testing.T) {
	r := rand.New(rand.NewSource(5))
	seen := map[string]int{}
	for n := 0; n < 6000; n++ {
		rule := makeSpareRule(r)
		p := printedOf(rule)
		if !strings.Contains(rule, ":-") {
			continue
		}
		for literal := range p.literals {
			some, safe := p.any(literal, nil), p.safeWithout(literal)
			text, e := rulebook.Spare("?x."+rule+"?p.", 1, literal)
			if some && safe && (e != rulebook.OK || !p.shows(literal, text)) {
				t.Errorf("Spare of %q, literal %d tells %q, %d, which does not show that it is spare", rule, literal, text, e)
			}
			if !(some && safe) && (text != "" || e != rulebook.ErrNeeded) {
				t.Errorf("Spare of %q, literal %d tells %q, %d: it is needed", rule, literal, text, e)
			}
			if some && !safe {
				seen["not safe"]++
			} else if e != rulebook.OK {
				seen["needed"]++
			} else if p.literals[literal][0] == '!' {
				seen["spare, negated"]++
			} else {
				seen["spare"]++
			}
		}
	}
	for _, kind := range []string{"not safe", "needed", "spare", "spare, negated"} {
		if seen[kind] < 100 {
			t.Errorf("the rules made are too much alike: %v", seen)
		}
	}
}

// TestSpareManyWays has rules in which each literal may become each other one, until the last.
func TestSpareManyWays(t *testing.T) {
	for _, rule := range []string{
		"p(1):-e(A,B),e(C,D),e(E,F),e(G,H),f(A,C,E).", "p(1):-e(A,B,C),e(B,C,D),e(C,D,E),e(D,E,F),e(E,F,G).",
		"p(A,B):-e(A,C),e(C,D),e(D,E),e(E,F),e(F,B).", "p(1):-e(A,B),e(B,C),e(C,D),e(D,E),e(E,A).",
	} {
		from := time.Now()
		for literal := range printedOf(rule).literals {
			rulebook.Spare(rule, 0, literal)
		}
		if took := time.Since(from); took > time.Second {
			t.Errorf("Spare(%q, ..) took %v", rule, took)
		}
	}
	wantSpare(t, "p(1):-e(A,B),e(B,C),e(C,D),e(D,E),e(E,A).", 0, 0, "", rulebook.ErrNeeded)
	wantSpare(t, "p(A,B):-e(A,C),e(C,D),e(D,E),e(E,F),e(F,B).", 0, 2, "", rulebook.ErrNeeded)
}
