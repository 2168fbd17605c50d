package rulebook_test

import (
	"math"
	"math/rand"
	"strings"
	"testing"
	"time"
)

// wantUnfolded asks the pass u for a program whose last items stay as they are: the texts are what stands ahead of these, as
// Print tells it, at first and behind each change.
func wantUnfolded(t *testing.T, rest string, texts ...string) {
	t.Helper()
	whole := []string{}
	for _, text := range texts {
		whole = append(whole, text+rest)
	}
	for _, passes := range []string{"u", "uu", "uuuuuuuu"} {
		wantSteps(t, whole[0], passes, whole...)
	}
}

func TestUnfoldDocumentExample(t *testing.T) {
	program := "q(A):-p(A,B),g(B).p(A,1):-h(A).p(A,B):-k(B,A).?q."
	wantOptimise(t, program, "us", 9, "q(A):-h(A),g(1).q(A):-k(B,A),g(B).?q.", 2)
	wantSteps(t, program, "us", program, "q(A):-h(A),g(1).q(A):-k(B,A),g(B).p(A,1):-h(A).p(A,B):-k(B,A).?q.", "q(A):-h(A),g(1).q(A):-k(B,A),g(B).?q.")
}

func TestUnfold(t *testing.T) {
	wantUnfolded(t, "p(A):-e(A).", "q(A):-p(A).", "q(A):-e(A).")
	wantUnfolded(t, "p(A):-e(A).?q.?p.", "?p.q(A):-p(A).", "?p.q(A):-e(A).")
	// The new rules stand in place of the old one, in the order of the others, wherever these stand.
	wantUnfolded(t, "p(A):-h(A).?q.", "p(A):-e(A).?p.p(A):-f(A),g(A).r(1).q(A):-p(A).r(2).",
		"p(A):-e(A).?p.p(A):-f(A),g(A).r(1).q(A):-e(A).q(A):-f(A),g(A).q(A):-h(A).r(2).")
	// The other's body stands in the literal's place: at the head of the body, between others, at its end.
	rest := "p(A,B):-e(B,C),!f(C),g(C,A).?q."
	wantUnfolded(t, rest, "q(A):-p(A,B),h(B),k(A).", "q(A):-e(B,C),!f(C),g(C,A),h(B),k(A).")
	wantUnfolded(t, rest, "q(A):-h(B),p(A,B),k(A).", "q(A):-h(B),e(B,C),!f(C),g(C,A),k(A).")
	wantUnfolded(t, rest, "q(A):-h(B),k(A),p(A,B).", "q(A):-h(B),k(A),e(B,C),!f(C),g(C,A).")
	wantUnfolded(t, rest, "q(A):-h(B),!k(B),p(A,B).", "q(A):-h(B),!k(B),e(B,C),!f(C),g(C,A).")
	// Rules that bring the same are new rules each.
	wantUnfolded(t, "p(A):-e(A).p(A):-e(A).p(1):-e(1).", "q(1):-p(1).", "q(1):-e(1).q(1):-e(1).q(1):-e(1).")
	// Names that begin alike are others.
	wantUnfolded(t, "pp(A):-f(A).p(A):-e(A).pq(1,2).", "q(A):-p(A),ppp(A).", "q(A):-e(A),ppp(A).")
}

// TestUnfoldNames has rules with the same variables in other places, and some that each rule has alone.
func TestUnfoldNames(t *testing.T) {
	wantUnfolded(t, "p(A,B):-e(B,A).", "q(A,B):-p(A,B),p(B,A),f(B,A).", "q(A,B):-e(B,A),p(B,A),f(B,A).", "q(A,B):-e(B,A),e(A,B),f(B,A).")
	wantUnfolded(t, "p(A):-e(B,A),e(A,C).", "q(A):-p(A),f(B,A,C).", "q(A):-e(B,A),e(A,C),f(D,A,E).")
	wantUnfolded(t, "p(A):-e(A,B,C).", "q(A):-p(A),p(B),p(C).", "q(A):-e(A,B,C),p(D),p(E).", "q(A):-e(A,B,C),e(D,E,F),p(G).", "q(A):-e(A,B,C),e(D,E,F),e(G,H,I).")
	for _, v := range []string{"A", "B", "M", "Y", "Z"} {
		for _, w := range []string{"C", "A", "N", "Z", "Y"} {
			if v != w {
				wantSteps(t, "p("+v+"):-e("+v+","+w+").q("+w+"):-p("+w+"),f("+v+","+w+").", "u", "p(A):-e(A,B).q(A):-p(A),f(B,A).", "p(A):-e(A,B).q(A):-e(A,B),f(C,A).")
			}
		}
	}
	// Five literals of three variables each: all fifteen have names of their own.
	wide := "q(O):-p(A,B,C),p(D,E,F),p(G,H,I),p(J,K,L),p(M,N,O)."
	steps := []string{"q(A):-p(B,C,D),p(E,F,G),p(H,I,J),p(K,L,M),p(N,O,A).p(A,B,C):-e(A,B,C)."}
	for i := 0; i < 5; i++ {
		steps = append(steps, strings.Replace(steps[i], "p(", "e(", 1))
	}
	wantSteps(t, wide+"p(Z,Y,X):-e(Z,Y,X).", "u", steps...)
}

// TestUnfoldFits has rules of which some cannot become the same as the literal.
func TestUnfoldFits(t *testing.T) {
	wantUnfolded(t, "p(A,1):-h(A).p(A,B):-k(A,B).?q.", "q(A):-p(A,2).", "q(A):-k(A,2).")
	wantUnfolded(t, "p(1):-a(1).p(2):-b(1).p(12):-c(1).p(A):-d(A).p(0):-e(1).?q.", "q(2):-p(2).", "q(2):-b(1).q(2):-d(2).")
	wantUnfolded(t, "p(1):-a(1).p(2):-b(1).p(12):-c(1).p(A):-d(A).p(0):-e(1).?q.", "q(1):-p(12).", "q(1):-c(1).q(1):-d(12).")
	wantUnfolded(t, "p(1,2):-h(1).p(A,A):-k(A).?q.", "q(A):-p(A,A).", "q(A):-k(A).")
	wantUnfolded(t, "p(A,A):-k(A).p(3,A):-h(A).?q.", "q(1):-p(1,2).q(2):-p(2,2).", "q(2):-p(2,2).", "q(2):-k(2).")
	// No two terms that stand in the same place are at odds, but all of them together are.
	wantUnfolded(t, "p(A,A,2):-k(A).p(A,B,B):-h(A,B).?q.", "q(A):-p(A,1,A).", "q(1):-h(1,1).")
	wantUnfolded(t, "p(1,A,A):-k(A).p(A,B,A):-h(A,B).?q.", "q(A):-p(A,A,2).", "q(2):-h(2,2).")
	wantUnfolded(t, "p(A,A,A):-k(A).?q.", "q(3).q(A):-p(A,1,2).", "q(3).")
	wantUnfolded(t, "p(A,A,A):-k(A).?q.", "q(3).q(A):-p(1,A,2).", "q(3).")
	wantUnfolded(t, "p(1,A,2):-k(A).?q.", "q(3).q(A):-p(A,A,A).", "q(3).")
	wantUnfolded(t, "p(A,1,2):-k(A).?q.", "q(3).q(A):-p(A,B,B).", "q(3).")
	wantUnfolded(t, "p(A,1,2):-k(A).?q.", "q(A):-p(A,B,C),f(B,C).", "q(A):-k(A),f(1,2).")
}

// TestUnfoldMostGeneral has terms that must be put in the one rule, the other, or both, and no others are.
func TestUnfoldMostGeneral(t *testing.T) {
	wantUnfolded(t, "p(A,B):-e(A,B).", "q(A,B):-p(A,B),f(B).", "q(A,B):-e(A,B),f(B).")
	wantUnfolded(t, "p(A,A):-e(A).", "q(A,B):-p(A,B),f(B,A,C).", "q(A,A):-e(A),f(A,A,B).")
	wantUnfolded(t, "p(A,B):-e(A,C,B).", "q(A):-p(A,A).", "q(A):-e(A,B,A).")
	wantUnfolded(t, "p(A,1):-e(A).", "q(A):-p(A,A),f(A),!g(A,2).", "q(1):-e(1),f(1),!g(1,2).")
	wantUnfolded(t, "p(A,B):-e(B,A),!f(A,B).", "q(A):-p(A,7),g(A).", "q(A):-e(7,A),!f(A,7),g(A).")
	wantUnfolded(t, "p(A,B,A):-e(A,B).", "q(A,B,C):-p(A,B,C).", "q(A,B,A):-e(A,B).")
	wantUnfolded(t, "p(A,B,B):-e(A,B).", "q(A,B):-p(A,A,B).", "q(A,A):-e(A,A).")
	wantUnfolded(t, "p(A,B,B):-e(A,B).", "q(A,B):-p(A,B,A).", "q(A,A):-e(A,A).")
	wantUnfolded(t, "p(A,A,1):-e(A).", "q(A,B,C):-p(A,B,C),f(C,B,A).", "q(A,A,1):-e(A),f(1,A,A).")
	wantUnfolded(t, "p(A,A,1):-e(A).", "q(A,B):-p(A,B,B).", "q(1,1):-e(1).")
	wantUnfolded(t, "p(1,A,A):-e(A).", "q(A,B):-p(A,A,B).", "q(1,1):-e(1).")
	wantUnfolded(t, "p(A,B,C):-e(A),e(B),e(C).", "q(A,B):-p(A,0,B).", "q(A,B):-e(A),e(0),e(B).")
	wantUnfolded(t, "p(A,A,A):-e(A).", "q(A,B,C):-p(A,B,C),f(D).", "q(A,A,A):-e(A),f(B).")
	wantUnfolded(t, "p(A,A,A):-e(A,B).", "q(A):-p(A,B,999).", "q(999):-e(999,A).")
	// A variable that the literal has not stays another than those of the rule put in.
	wantUnfolded(t, "p(A):-e(A,B),f(B).", "q(A):-p(A),f(B),!g(A,B).", "q(A):-e(A,B),f(B),f(C),!g(A,C).")
}

// TestUnfoldEmptyBody unfolds by rules that have no body.
func TestUnfoldEmptyBody(t *testing.T) {
	wantUnfolded(t, "p(1).?q.", "q(A):-p(A).", "q(1).")
	wantUnfolded(t, "p(1).p(2).?q.", "q(A):-p(A),e(A).", "q(1):-e(1).q(2):-e(2).")
	wantUnfolded(t, "p(1).p(2).p(3):-e(3).?q.", "q(A):-p(A).", "q(1).q(2).q(3):-e(3).")
	wantUnfolded(t, "p(1,2).?q.", "q(A,B):-p(A,B),p(B,A).q(1,1).", "q(1,2):-p(2,1).q(1,1).", "q(1,1).")
	wantUnfolded(t, "p(1,2).p(2,1).?q.", "q(A):-p(A,B),p(B,A).", "q(1):-p(2,1).q(2):-p(1,2).", "q(1).q(2):-p(1,2).", "q(1).q(2).")
	wantUnfolded(t, "p(5).?q.", "q(1):-p(5).", "q(1).")
	wantUnfolded(t, "p(5).?q.", "q(1):-!e(1),p(5).", "q(1):-!e(1).")
	wantUnfolded(t, "p(5).?q.", "q(1):-p(A),!e(A).", "q(1):-!e(5).")
}

// TestUnfoldNoRuleFits leaves the rule out, unless its head's predicate would be named, but no longer ruled.
func TestUnfoldNoRuleFits(t *testing.T) {
	wantUnfolded(t, "p(A,1):-h(A).", "q(A):-p(A,2).", "")
	wantUnfolded(t, "p(A,1):-h(A).?p.?qq.", "q(A):-p(A,2).", "")
	wantUnfolded(t, "p(A,1):-h(A).?q.", "q(A):-p(A,2).q(A):-e(A).", "q(A):-e(A).")
	wantUnfolded(t, "p(A,1):-h(A).q(3).?q.", "q(A):-p(A,2).", "")
	wantUnfolded(t, "p(A,1):-h(A).?q.", "q(A):-p(A,2).")
	wantUnfolded(t, "p(A,1):-h(A).n(A):-e(A),!q(A).", "q(A):-p(A,2).")
	// Of two rules the second must stay.
	wantUnfolded(t, "p(A,1):-h(A).?q.", "q(A):-p(A,2).q(A):-p(A,3).", "q(A):-p(A,3).")
	wantUnfolded(t, "p(A,1):-h(A).", "q(A):-p(A,2).q(A):-p(A,3).", "q(A):-p(A,3).", "")
	// The next literal may be unfolded, of the same rule or of another.
	wantUnfolded(t, "p(A,1):-h(A).?q.", "q(A):-p(A,2),p(A,1).", "q(A):-p(A,2),h(A).")
	wantUnfolded(t, "p(A,1):-h(A).?q.", "q(A):-p(A,2),p(A,B),p(C,3).", "q(A):-p(A,2),h(A),p(B,3).")
	wantUnfolded(t, "p(A,1):-h(A).?q.?r.", "q(A):-p(A,2).r(A):-e(A),p(A,B).", "q(A):-p(A,2).r(A):-e(A),h(A).")
	// q is named until r's rule goes by way of q: then q's rule may go.
	wantUnfolded(t, "p(A,1):-h(A).?r.", "q(A):-p(A,2).r(A):-q(A).r(A):-e(A).", "q(A):-p(A,2).r(A):-p(A,2).r(A):-e(A).", "r(A):-p(A,2).r(A):-e(A).", "r(A):-e(A).")
	// A given predicate is not ruled: its literals are not unfolded, though no rule of it fits.
	wantUnfolded(t, "p(1).", "q(A):-e(A).q(A):-e(2),f(A).")
}

// TestUnfoldUses has predicates that use themselves: their literals are not unfolded, but those of predicates that use them are.
func TestUnfoldUses(t *testing.T) {
	for _, program := range []string{
		way, "p(A):-p(A).", "p(1):-p(1).?p.", "q(A):-p(A,B)." + way, "q(A):-e(A,B),p(A,B)." + way, "a(A):-b(A).b(A):-a(A).b(A):-e(A).?a.",
		"a(A):-b(A).b(A):-c(A).c(A):-a(A).?b.", "q(A):-c(A).a(A):-b(A),e(A).b(A):-c(A).c(A):-d(A),!f(A).d(A):-a(A).d(A):-e(A).?q.",
	} {
		wantUnfolded(t, program, "")
	}
	wantUnfolded(t, way, "r(A):-q(A,1).q(A,B):-p(A,B),e(B,A).", "r(A):-p(A,1),e(1,A).q(A,B):-p(A,B),e(B,A).")
	wantUnfolded(t, way, "r(A):-e(A,A),q(A).q(A):-p(A,A).q(A):-f(A).", "r(A):-e(A,A),p(A,A).r(A):-e(A,A),f(A).q(A):-p(A,A).q(A):-f(A).")
	// In the rules of a predicate that uses itself the literals of others are unfolded.
	wantUnfolded(t, "q(A,B):-e(B,A).?p.", "p(A,B):-q(A,B).p(A,B):-q(A,C),p(C,B).", "p(A,B):-e(B,A).p(A,B):-q(A,C),p(C,B).", "p(A,B):-e(B,A).p(A,B):-e(C,A),p(C,B).")
	// A predicate that no longer uses itself behind a change is unfolded.
	wantUnfolded(t, "z(A,1):-e(A).?q.", "p(A):-z(A,2),p(A).p(A):-f(A).q(A):-p(A).", "p(A):-f(A).q(A):-p(A).", "p(A):-f(A).q(A):-f(A).")
	wantUnfolded(t, "z(A,1):-e(A).?q.", "q(A):-p(A).p(A):-z(A,2),r(A).p(A):-f(A).r(A):-p(A).", "q(A):-p(A).p(A):-f(A).r(A):-p(A).",
		"q(A):-f(A).p(A):-f(A).r(A):-p(A).", "q(A):-f(A).p(A):-f(A).r(A):-f(A).")
}

// TestUnfoldNegated has negated literals, which stay as they are but for the terms put.
func TestUnfoldNegated(t *testing.T) {
	wantUnfolded(t, "n(A):-v(A),!p(A).p(A):-e(A).?n.", "")
	wantUnfolded(t, "p(A):-e(A).?n.", "n(A):-v(A),!p(A),p(A).", "n(A):-v(A),!p(A),e(A).")
	wantUnfolded(t, "p(A):-e(A,1).?n.", "n(A):-!p(A),!p(B),p(B),v(A).", "n(A):-!p(A),!p(B),e(B,1),v(A).")
	wantUnfolded(t, "p(A,1):-e(A).?n.", "n(A):-p(A,B),!p(B,A).", "n(A):-e(A),!p(1,A).")
	// A literal that is negated in the rule put in is negated in the new one.
	wantUnfolded(t, "p(A):-e(A),!r(A).r(A):-f(A).?n.", "n(A):-v(A),p(A).", "n(A):-v(A),e(A),!r(A).")
	wantUnfolded(t, "r(1).p(1):-!r(1).?n.", "n(A):-p(A).", "n(1):-!r(1).")
}

// TestUnfoldFirst has several literals to unfold: the first item's come first, and in it the first literal.
func TestUnfoldFirst(t *testing.T) {
	wantUnfolded(t, "c(A):-e(A).?a.", "a(A):-b(A).b(A):-c(A).", "a(A):-c(A).b(A):-c(A).", "a(A):-e(A).b(A):-c(A).", "a(A):-e(A).b(A):-e(A).")
	wantUnfolded(t, "?a.", "c(A):-e(A).b(A):-c(A).a(A):-b(A).", "c(A):-e(A).b(A):-e(A).a(A):-b(A).", "c(A):-e(A).b(A):-e(A).a(A):-e(A).")
	wantUnfolded(t, "p(A):-e(A).r(A):-f(A),g(A).", "q(A):-r(A),e(A),p(A),p(1).", "q(A):-f(A),g(A),e(A),p(A),p(1).", "q(A):-f(A),g(A),e(A),e(A),p(1).", "q(A):-f(A),g(A),e(A),e(A),e(1).")
	// What a change brings is asked about ahead of what stood behind it.
	behind := []string{"a(A):-b(A),c(A).b(A):-d(A),f(A).", "a(A):-d(A),f(A),c(A).b(A):-d(A),f(A).", "a(A):-g(A),f(A),c(A).b(A):-d(A),f(A).",
		"a(A):-g(A),f(A),e(A).b(A):-d(A),f(A).", "a(A):-g(A),f(A),e(A).b(A):-g(A),f(A)."}
	wantUnfolded(t, "c(A):-e(A).d(A):-g(A).", behind...)
}

// TestUnfoldItems has programs that would come to have more items than may be.
func TestUnfoldItems(t *testing.T) {
	facts := "p(1).p(2).p(3).p(4)."
	wantUnfolded(t, facts+strings.Repeat("?q.", 8), "q(A):-p(A).", "q(1).q(2).q(3).q(4).")
	wantUnfolded(t, facts+strings.Repeat("?q.", 9), "q(A):-p(A).")
	wantUnfolded(t, facts+strings.Repeat("?q.", 8), "q(A):-p(A).q(0).")
	// Rules that do not fit do not count, and the next literal may be unfolded.
	wantUnfolded(t, facts+strings.Repeat("?q.", 11), "q(A):-p(3),e(A).", "q(A):-e(A).")
	wantUnfolded(t, facts+strings.Repeat("?q.", 10), "q(A):-p(A),p(3).", "q(A):-p(A).")
	wantUnfolded(t, facts+strings.Repeat("?q.", 10), "q(A):-p(A),p(5).")
	wantUnfolded(t, facts+strings.Repeat("?q.", 9), "q(A):-p(A).q(9):-p(5).", "q(A):-p(A).")
	// Where a rule goes there is room for the first again.
	wantUnfolded(t, facts+strings.Repeat("?q.", 7), "q(A):-p(A).q(8).q(9):-p(5).", "q(A):-p(A).q(8).", "q(1).q(2).q(3).q(4).q(8).")
	wantUnfolded(t, facts+"?q.", "q(A,B,C):-p(A),p(B),p(C).", "q(1,A,B):-p(A),p(B).q(2,A,B):-p(A),p(B).q(3,A,B):-p(A),p(B).q(4,A,B):-p(A),p(B).",
		"q(1,1,A):-p(A).q(1,2,A):-p(A).q(1,3,A):-p(A).q(1,4,A):-p(A).q(2,A,B):-p(A),p(B).q(3,A,B):-p(A),p(B).q(4,A,B):-p(A),p(B).",
		"q(1,1,1).q(1,1,2).q(1,1,3).q(1,1,4).q(1,2,A):-p(A).q(1,3,A):-p(A).q(1,4,A):-p(A).q(2,A,B):-p(A),p(B).q(3,A,B):-p(A),p(B).q(4,A,B):-p(A),p(B).")
}

// TestUnfoldLiterals has rules that would come to have more literals than may be.
func TestUnfoldLiterals(t *testing.T) {
	rest := "p(A):-f(A),g(A),h(A).r(A):-k(A).?q."
	wantUnfolded(t, rest, "q(A):-e(A),p(A),e(1).", "q(A):-e(A),f(A),g(A),h(A),e(1).")
	wantUnfolded(t, rest, "q(A):-e(A),p(A),e(1),e(2).")
	wantUnfolded(t, rest, "q(A):-e(A),p(A),e(1),r(2).", "q(A):-e(A),p(A),e(1),k(2).")
	wantUnfolded(t, rest, "q(A):-p(A),p(A),e(A).", "q(A):-f(A),g(A),h(A),p(A),e(A).")
	wantUnfolded(t, rest, "q(A):-p(A),p(A),e(A),e(1).q(A):-p(A).", "q(A):-p(A),p(A),e(A),e(1).q(A):-f(A),g(A),h(A).")
	// One new rule that is too long is enough: the others are not made either.
	wantUnfolded(t, "p(A):-e(A).p(A):-e(A),f(A),g(A).p(1).?q.", "q(A):-p(A),a(A),b(A),c(A).")
	wantUnfolded(t, "p(A):-e(A).p(A):-e(A),f(A),g(A).p(1).?q.", "q(A):-p(A),a(A),b(A).", "q(A):-e(A),a(A),b(A).q(A):-e(A),f(A),g(A),a(A),b(A).q(1):-a(1),b(1).")
	// One that would be too long, but does not fit, is none.
	wantUnfolded(t, "p(A):-e(A).p(1):-e(1),f(1).?q.", "q(2):-p(2),a(2),b(2),c(2),d(2).", "q(2):-e(2),a(2),b(2),c(2),d(2).")
	// Literals that go make room for the first.
	wantUnfolded(t, "p(A):-f(A),g(A).z(1).?q.", "q(A):-p(A),a(A),b(A),c(A),z(1).", "q(A):-p(A),a(A),b(A),c(A).", "q(A):-f(A),g(A),a(A),b(A),c(A).")
	// With more variables than letters besides.
	wide := "k(A,B,C),k(D,E,F),k(G,H,I),k(J,K,L)"
	wantUnfolded(t, "p(A):-k(A,B,C),k(D,E,F),k(G,H,I),k(J,K,L),k(M,N,O).?q.", "q(A):-"+wide+",p(M).")
	wantUnfolded(t, "p(A):-k(A,B,C),k(D,E,F),k(G,H,I),k(J,K,L),k(M,N,O).?q.", "q(A):-p(A).", "q(A):-k(A,B,C),k(D,E,F),k(G,H,I),k(J,K,L),k(M,N,O).")
}

// TestUnfoldText has programs whose text would come to be longer than may be.
func TestUnfoldText(t *testing.T) {
	long := "aaaaaa(100,200,300)"
	for _, negated := range []string{"", "!"} {
		p := "p(A):-e(A)," + negated + long + ",f(12,A,3)."
		rule, next, small := "q(1):-g(5),p(5),h(1).", "q(1):-g(5),e(5),"+negated+long+",f(12,5,3),h(1).", "s(A):-r(A).r(A):-k(A)."
		// Behind the change the text has 600 bytes, or 601.
		full := padding(t, 600-len(next)-len(p)-len(small))
		smaller := "s(A):-k(A).r(A):-k(A)."
		wantSteps(t, rule+p+full+small, "u", rule+p+full+small, next+p+full+small, next+p+full+smaller)
		over := padding(t, 601-len(next)-len(p)-len(small))
		wantSteps(t, rule+p+over+small, "u", rule+p+over+small, rule+p+over+smaller)
	}
	// The text becomes shorter by the next change, and then there is room for the first.
	rule, next := "q(A):-p(A).", "q(A):-e(A),f(A)."
	rest := "p(A):-e(A),f(A)."
	gone, left := "s(1):-rr(1),rr(2),k(1).rr(1).rr(2).", "s(1):-rr(2),k(1).rr(1).rr(2)."
	fill := padding(t, 600-len(rule)-len(rest)-len(gone))
	wantSteps(t, rule+rest+gone+fill, "u", rule+rest+gone+fill, rule+rest+left+fill, next+rest+left+fill, next+rest+"s(1):-k(1).rr(1).rr(2)."+fill)
}

// TestUnfoldManySteps has a rule that comes to nothing in the end, but only behind very many changes.
func TestUnfoldManySteps(t *testing.T) {
	from := time.Now()
	wantOptimise(t, "q(1):-d(1),a(1),b(1),b(1),d(2).a(1):-d(1),d(1).b(1):-d(1),a(1),a(1).d(1).d(1).", "u", math.MaxInt,
		"a(1).a(1).a(1).a(1).b(1).b(1).b(1).b(1).b(1):-a(1).b(1):-a(1).b(1):-a(1).b(1):-a(1),a(1).d(1).d(1).", 19267)
	if took := time.Since(from); took > 10*time.Second {
		t.Errorf("19267 changes took %v", took)
	}
}

// padding is items of n bytes, for n from 3 on, in which nothing is to be unfolded.
func padding(t *testing.T, n int) string {
	t.Helper()
	text := ""
	for n-len(text) >= 29 {
		literals := min(5, (n-len(text)-9)/20)
		text += "w(1):-" + strings.Repeat("vvvvvv(100,200,300),", literals-1) + "vvvvvv(100,200,300)."
	}
	for n-len(text) > 0 {
		size := min(8, n-len(text))
		if left := n - len(text) - size; left == 1 || left == 2 {
			size -= 3
		}
		text += "?" + strings.Repeat("x", size-2) + "."
	}
	if len(text) != n {
		t.Fatalf("the test's items have %d bytes, not %d", len(text), n)
	}
	return text
}

// unfoldings lists what the program is with each literal of a rule unfolded that may be by the document's words.
func (p plainProgram) unfoldings(at int) []plainProgram {
	found := []plainProgram{}
	for l, a := range p[at].atoms {
		if l == 0 || a.negated || !p.ruled()[a.predicate] || reached(p, a.predicate)[a.predicate] {
			continue
		}
		rules := []madeItem{}
		for _, other := range p {
			if other.output == "" && other.atoms[0].predicate == a.predicate {
				rules = append(rules, plainlyUnfolded(p[at], l, other)...)
			}
		}
		found = append(found, p.with(at, rules...))
	}
	return found
}

// plainlyUnfolded is the new rule, if there is one. The literal and the other's head are laid beside the rule, so that what is
// put is put into them too, one term after the other, until they are the same.
func plainlyUnfolded(rule madeItem, l int, other madeItem) []madeItem {
	for v := 'A'; v <= 'Z'; v++ {
		other = putInto(other, string(v), string(v)+"'")
	}
	all := madeItem{atoms: []madeAtom{rule.atoms[l], other.atoms[0]}}
	all.atoms = append(all.atoms, rule.atoms[:l]...)
	all.atoms = append(all.atoms, other.atoms[1:]...)
	all.atoms = append(all.atoms, rule.atoms[l+1:]...)
	for i := range all.atoms[0].terms {
		one, two := all.atoms[0].terms[i], all.atoms[1].terms[i]
		if isVariable(one) {
			all = putInto(all, one, two)
		} else if isVariable(two) {
			all = putInto(all, two, one)
		} else if one != two {
			return nil
		}
	}
	return []madeItem{shortNames(madeItem{atoms: all.atoms[2:]})}
}

// shortNames gives each variable a name of one byte.
func shortNames(it madeItem) madeItem {
	names := map[string]string{}
	out := madeItem{}
	for _, a := range it.atoms {
		b := madeAtom{negated: a.negated, predicate: a.predicate}
		for _, s := range a.terms {
			if isVariable(s) && names[s] == "" {
				names[s] = string(rune('Z' - len(names)))
			}
			if isVariable(s) {
				s = names[s]
			}
			b.terms = append(b.terms, s)
		}
		out.atoms = append(out.atoms, b)
	}
	return out
}

// makeUnfold makes a program in which many literals can be unfolded, at times with so many rules, literals or bytes that the
// limits are near.
func makeUnfold(r *rand.Rand) plainProgram {
	items := plainProgram{}
	terms := []string{"A", "B", "C", "D", "A", "B", "C", "0", "2", "12"}[:5+r.Intn(6)]
	long := r.Intn(4)
	for n := 2 + r.Intn(11); n > 0; n-- {
		head := 3 + r.Intn(4)
		it := madeItem{atoms: []madeAtom{makeRunAtom(r, head, head+1, terms)}}
		for n := r.Intn(3 + long); n > 0; n-- {
			to := head
			if r.Intn(12) == 0 {
				to = 7
			}
			a := makeRunAtom(r, r.Intn(2)*2, to, terms)
			a.negated = r.Intn(6) == 0
			it.atoms = append(it.atoms, a)
		}
		items = append(items, safely(it))
	}
	for n := r.Intn(4); n > 0; n-- {
		at := r.Intn(len(items) + 1)
		output := madeItem{output: runPredicates[r.Intn(len(runPredicates))].name}
		items = append(items[:at:at], append(plainProgram{output}, items[at:]...)...)
	}
	return items
}
