package rulebook_test

import (
	"math/rand"
	"strings"
	"testing"

	"rulebook/rulebook"
)

// wantSameFollows runs a program and what was made of it with the same facts, with just as many tuples as the first needs, and
// with all that may be. It tells how many tuples that is, or -1 where Run refuses the program.
func wantSameFollows(t *testing.T, program, smaller, facts string) int {
	t.Helper()
	text, n, e := rulebook.Run(program, facts, 200)
	if e != rulebook.OK {
		return -1
	}
	for _, budget := range []int{n, 200} {
		got, gotN, gotE := rulebook.Run(smaller, facts, budget)
		if gotE != rulebook.OK || got != text || gotN > n {
			t.Errorf("of %q with %q follows %q, %d, but of %q %q, %d, %d", program, facts, text, n, smaller, got, gotN, gotE)
		}
	}
	return n
}

// makeFacts makes facts of the predicates that are given in the programs made, with more letters behind their names.
func makeFacts(r *rand.Rand, more string) string {
	facts := ""
	for n := r.Intn(30); n > 0; n-- {
		a := makeRunAtom(r, 0, 3, []string{"0", "2", "12"})
		a.predicate += more
		if len(facts)+len(a.String()) < 400 {
			facts += a.String() + "."
		}
	}
	return facts
}

// TestFollowsSame has programs with changes of all passes, and facts from which something follows.
func TestFollowsSame(t *testing.T) {
	chain := "e(1,2).e(2,3).e(3,4).e(4,2).f(1).f(3).g(4,4).g(2,1)."
	for _, c := range []struct {
		program, passes, facts string
		changes                int
	}{
		{step + twice + "?p.", "l", chain, 1},
		{step + twice + "?p.", "ulsar", chain, 1},
		{twice + step + "e(A,B):-g(A,B).e(A,B):-p(B,A),f(A).?p.?e.", "l", "g(1,2).g(2,3).g(3,3).f(1).f(2).", 1},
		{"n(A):-f(A),!p(A,A)." + twice + step + "?n.", "l", chain, 1},
		{"q(A):-p(A,B),f(B).p(A,1):-f(A).p(A,B):-e(B,A).?q.", "u", chain, 1},
		{"q(A):-p(A,B),f(B).p(A,1):-f(A).p(A,B):-e(B,A).?q.", "us", chain, 2},
		{"q(A):-p(A,2).q(A):-f(A).p(A,1):-f(A).?q.", "us", chain, 2},
		{"n(A):-f(A),!q(A).q(A):-s(A,B),e(B,A).s(A,B):-e(A,B),e(A,C).s(1,A):-f(A).?n.", "uarsl", chain, 4},
		{"q(A,B):-r(A,C),r(C,B).r(A,B):-e(A,B).r(A,A):-f(A).r(1,2).?q.", "u", chain, 4},
		{"a(A):-b(A,A).b(A,B):-c(A,C),c(C,B).c(A,B):-p(A,B),!g(A,B)." + step + twice + "?a.?p.", "lusra", chain, 7},
	} {
		text, n, e := rulebook.Run(c.program, c.facts, 200)
		if e != rulebook.OK || n == 0 || text == "" {
			t.Errorf("Run(%q, %q, 200) = %q, %d, %d: nothing follows", c.program, c.facts, text, n, e)
		}
		for budget := 0; budget <= c.changes+1; budget++ {
			smaller, made, e := rulebook.Optimise(c.program, c.passes, budget)
			if e != rulebook.OK || made != min(budget, c.changes) {
				t.Errorf("Optimise(%q, %q, %d) = %q, %d, %d", c.program, c.passes, budget, smaller, made, e)
			}
			wantSameFollows(t, c.program, smaller, c.facts)
			wantSameFollows(t, c.program, smaller, "")
		}
	}
}

// TestFollowsFewer has tuples that are no longer counted, as no output needs them.
func TestFollowsFewer(t *testing.T) {
	program, facts := "q(A):-p(A).p(A):-e(A).?q.", "e(1).e(2)."
	wantRun(t, program, facts, 4, "q(1).q(2).", 4)
	wantRunError(t, program, facts, 3, rulebook.ErrMany)
	smaller, _, _ := rulebook.Optimise(program, "us", 9)
	wantRun(t, smaller, facts, 4, "q(1).q(2).", 2)
	wantRun(t, smaller, facts, 2, "q(1).q(2).", 2)
}

// longNames has each predicate with more letters behind its name.
func (p plainProgram) longNames(more string) plainProgram {
	out := plainProgram{}
	for _, it := range p {
		named := madeItem{}
		if it.output != "" {
			named.output = it.output + more
		}
		for _, a := range it.atoms {
			a.predicate += more
			named.atoms = append(named.atoms, a)
		}
		out = append(out, named)
	}
	return out
}

// TestMadePasses holds all passes against a plain following of the document's words, and what follows behind them against what
// follows ahead of them.
func TestMadePasses(t *testing.T) {
	r := rand.New(rand.NewSource(8))
	seen := map[string]int{}
	for n := 0; n < 5000; n++ {
		items := makeUnfold(r)
		if r.Intn(3) == 0 {
			items = makeLinear(r, items)
		}
		more := []string{"", "", "xxx", "xxxxx"}[r.Intn(4)]
		items = items.longNames(more)
		program := programOf(items)
		// Those of a and r take the test much longer.
		kinds := []string{"sul", "sul", "sul", "sarul"}[n%4]
		passes := ""
		for len(passes) < 1+r.Intn(8) {
			passes += kinds[r.Intn(len(kinds)):][:1]
		}
		budget := []int{r.Intn(6), 40}[r.Intn(2)]
		e, _ := wantedCheck(items)
		if e != rulebook.OK || len(program) > 600 || len(items) > 16 {
			seen["refused"]++
			continue
		}
		smaller, made := items.optimised(passes, budget, seen)
		wantOptimise(t, program, passes, budget, wantedPrint(programOf(smaller)), made)
		tuples := wantSameFollows(t, program, programOf(smaller), makeFacts(r, more))
		if made > 0 && tuples > 0 {
			seen["followed"]++
		}
		if made > 0 && tuples > 0 && strings.Contains(program, "!") {
			seen["followed, negated"]++
		}
	}
	for _, kind := range []string{"s", "a", "r", "u", "l", "not allowed", "not allowed, and the next", "budget used up", "followed", "followed, negated"} {
		if seen[kind] < 100 {
			t.Errorf("the programs made are too much alike: %v", seen)
		}
	}
}
