package rulebook_test

import (
	"math"
	"strings"
	"testing"

	"rulebook/rulebook"
)

func wantOptimise(t *testing.T, program, passes string, budget int, text string, n int) {
	t.Helper()
	got, gotN, e := rulebook.Optimise(program, passes, budget)
	if got != text || gotN != n || e != rulebook.OK {
		t.Errorf("Optimise(%.200q, %q, %d) = %q, %d, %d, want %q, %d, OK", program, passes, budget, got, gotN, e, text, n)
	}
}

func wantOptimiseError(t *testing.T, program, passes string, budget int, e rulebook.Errno) {
	t.Helper()
	got, gotN, gotE := rulebook.Optimise(program, passes, budget)
	if got != "" || gotN != 0 || gotE != e {
		t.Errorf("Optimise(%.200q, %.20q, %d) = %q, %d, %d, want error %d", program, passes, budget, got, gotN, gotE, e)
	}
}

// wantSteps asks with each budget from 0 on: the texts are the program, as Print tells it, and what it is behind each change.
func wantSteps(t *testing.T, program, passes string, texts ...string) {
	t.Helper()
	last := len(texts) - 1
	for n, text := range texts {
		wantOptimise(t, program, passes, n, text, n)
	}
	for _, budget := range []int{last + 1, last + 2, 9, 100, math.MaxInt32, math.MaxInt - 1, math.MaxInt} {
		wantOptimise(t, program, passes, budget, texts[last], last)
	}
}

func TestOptimiseDocumentExamples(t *testing.T) {
	like := "p(A):-e(A,B),f(B).p(X):-e(X,Y),e(X,Z).?p."
	wantOptimise(t, like, "ar", 9, "p(A):-e(A,B).?p.", 2)
	wantOptimise(t, like, "ar", 1, "p(A):-e(A,B),f(B).p(A):-e(A,B).?p.", 1)
	wantOptimise(t, "p(A):-p(A).?p.", "r", 9, "p(A):-p(A).?p.", 0)
}

// threefold has a change of each of s, a and r.
const threefold = "?p.p(Z):-e(Z,Y),e(Z,X).p(A):-e(A,B),f(B).q(X):-p(X),p(X)."

func TestPassesInOrder(t *testing.T) {
	whole := "?p.p(A):-e(A,B),e(A,C).p(A):-e(A,B),f(B).q(A):-p(A),p(A)."
	wantSteps(t, threefold, "s", whole, "?p.p(A):-e(A,B),e(A,C).p(A):-e(A,B),f(B).")
	wantSteps(t, threefold, "a", whole, "?p.p(A):-e(A,B).p(A):-e(A,B),f(B).q(A):-p(A),p(A).", "?p.p(A):-e(A,B).p(A):-e(A,B),f(B).q(A):-p(A).")
	wantSteps(t, threefold, "r", whole, "?p.p(A):-e(A,B),e(A,C).q(A):-p(A),p(A).")
	wantSteps(t, threefold, "sar", whole, "?p.p(A):-e(A,B),e(A,C).p(A):-e(A,B),f(B).", "?p.p(A):-e(A,B).p(A):-e(A,B),f(B).", "?p.p(A):-e(A,B).")
	wantSteps(t, threefold, "sra", whole, "?p.p(A):-e(A,B),e(A,C).p(A):-e(A,B),f(B).", "?p.p(A):-e(A,B),e(A,C).", "?p.p(A):-e(A,B).")
	wantSteps(t, threefold, "ras", whole, "?p.p(A):-e(A,B),e(A,C).q(A):-p(A),p(A).", "?p.p(A):-e(A,B).q(A):-p(A),p(A).", "?p.p(A):-e(A,B).q(A):-p(A).", "?p.p(A):-e(A,B).")
	wantSteps(t, threefold, "rsa", whole, "?p.p(A):-e(A,B),e(A,C).q(A):-p(A),p(A).", "?p.p(A):-e(A,B),e(A,C).", "?p.p(A):-e(A,B).")
	// q is wanted until the rule that uses it is left out.
	used := "p(A):-e(A),q(A).p(A):-e(A).q(A):-f(A).?p."
	wantSteps(t, used, "sr", used, "p(A):-e(A).q(A):-f(A).?p.")
	wantSteps(t, used, "rs", used, "p(A):-e(A).q(A):-f(A).?p.", "p(A):-e(A).?p.")
}

func TestPassesSeveralTimes(t *testing.T) {
	used := "p(A):-e(A),q(A).p(A):-e(A).q(A):-f(A).?p."
	wantSteps(t, used, "srs", used, "p(A):-e(A).q(A):-f(A).?p.", "p(A):-e(A).?p.")
	wantSteps(t, used, "ssrrssrr", used, "p(A):-e(A).q(A):-f(A).?p.", "p(A):-e(A).?p.")
	four := "p(A):-e(A,B),e(A,C),e(A,D),e(A,E)."
	for _, passes := range []string{"a", "aa", "aaaaaaaa", "sa", "as"} {
		wantSteps(t, "?p."+four, passes, "?p."+four, "?p.p(A):-e(A,B),e(A,C),e(A,D).", "?p.p(A):-e(A,B),e(A,C).", "?p.p(A):-e(A,B).")
	}
	// Too many tuples follow for item 0 to be implied, as long as the rules that are not wanted are among them.
	many := full("k(A,B,C),k(A,D,E)", "y(1).y(2).y(3).y(4).?p.")
	printed := wantedPrint(many)
	few := "e(A):-k(A,B,C).e(A):-k(B,A,C).e(A):-k(B,C,A).p(A):-e(A).?p."
	wantSteps(t, many, "r", printed)
	wantSteps(t, many, "rs", printed, "p(A):-k(A,B,C),k(A,D,E)."+few)
	wantSteps(t, many, "rsr", printed, "p(A):-k(A,B,C),k(A,D,E)."+few, few)
}

// fivefold has a change of each pass.
const fivefold = twice + "q(X):-t(X),p(X,Y)." + step + "t(Z):-e(Z,Y),e(Z,X).t(W):-e(W,W).z(1).?q."

func TestAllPasses(t *testing.T) {
	whole := wantedPrint(fivefold)
	out := strings.NewReplacer("z(1).", "")
	spared := strings.NewReplacer("t(A):-e(A,B),e(A,C).", "t(A):-e(A,B).")
	implied := strings.NewReplacer("t(A):-e(A,A).", "")
	straight := strings.NewReplacer(twice, once)
	both := strings.NewReplacer("q(A):-t(A),p(A,B).", "q(A):-e(A,B),e(A,C),p(A,D).q(A):-e(A,A),p(A,B).")
	wantSteps(t, fivefold, "s", whole, out.Replace(whole))
	wantSteps(t, fivefold, "a", whole, spared.Replace(whole))
	wantSteps(t, fivefold, "r", whole, implied.Replace(whole))
	wantSteps(t, fivefold, "u", whole, both.Replace(whole))
	wantSteps(t, fivefold, "l", whole, straight.Replace(whole))
	wantSteps(t, fivefold, "ul", whole, both.Replace(whole), both.Replace(straight.Replace(whole)))
	wantSteps(t, fivefold, "lu", whole, straight.Replace(whole), both.Replace(straight.Replace(whole)))
	wantSteps(t, fivefold, "ullu", whole, both.Replace(whole), both.Replace(straight.Replace(whole)))
	// Behind a, r and l there is one rule of t, with one literal.
	small := straight.Replace(implied.Replace(spared.Replace(whole)))
	wantSteps(t, fivefold, "arlus", whole, spared.Replace(whole), implied.Replace(spared.Replace(whole)), small,
		strings.Replace(small, "q(A):-t(A),p(A,B).", "q(A):-e(A,B),p(A,C).", 1), once+"q(A):-e(A,B),p(A,C)."+step+"?q.")
	// What one pass leaves, another may change, and so the same pass again.
	again := "q(A):-p(A),a(A),b(A),c(A),c(B).p(A):-f(A),g(A).?q."
	wantSteps(t, again, "u", again)
	wantSteps(t, again, "uau", again, "q(A):-p(A),a(A),b(A),c(A).p(A):-f(A),g(A).?q.", "q(A):-f(A),g(A),a(A),b(A),c(A).p(A):-f(A),g(A).?q.")
	wantSteps(t, again, "uauas", again, "q(A):-p(A),a(A),b(A),c(A).p(A):-f(A),g(A).?q.", "q(A):-f(A),g(A),a(A),b(A),c(A).p(A):-f(A),g(A).?q.", "q(A):-f(A),g(A),a(A),b(A),c(A).?q.")
	more := twice + step + "p(A,B):-e(A,B),f(A).?p."
	wantSteps(t, more, "l", more)
	wantSteps(t, more, "lrl", more, twice+step+"?p.", once+step+"?p.")
	wantSteps(t, "p(A,B):-q(A,B)."+twice+"q(A,B):-e(A,B).?p.", "uls", "p(A,B):-q(A,B)."+twice+"q(A,B):-e(A,B).?p.", step+twice+"q(A,B):-e(A,B).?p.", step+once+"q(A,B):-e(A,B).?p.", way)
}

func TestPassesWithoutChanges(t *testing.T) {
	for _, passes := range []string{"", "s", "a", "r", "u", "l", "ul", "sarul", "sarulsar", "llllllll", "uuuuuuuu"} {
		wantSteps(t, "", passes, "")
		wantSteps(t, "?p.", passes, "?p.")
		wantSteps(t, "?p.p(Y,X):-e(X,Z,Y).?e.", passes, "?p.p(A,B):-e(B,C,A).?e.")
		wantSteps(t, "p(1).?p.", passes, "p(1).?p.")
		wantSteps(t, way, passes, way)
	}
	wantSteps(t, threefold, "", "?p.p(A):-e(A,B),e(A,C).p(A):-e(A,B),f(B).q(A):-p(A),p(A).")
	wantSteps(t, ofLength(t, 600), "s", ofLength(t, 600))
	wantOptimise(t, ofLength(t, 600), "sarulsar", 0, ofLength(t, 600), 0)
	wantOptimise(t, threefold, "sarsarsa", 0, "?p.p(A):-e(A,B),e(A,C).p(A):-e(A,B),f(B).q(A):-p(A),p(A).", 0)
}

// TestOptimisePrinted has changes behind which the variables first stand in another order.
func TestOptimisePrinted(t *testing.T) {
	wantSteps(t, "?p.p(Q):-e(R,S),f(Q),e(S,T),e(S,U).", "a", "?p.p(A):-e(B,C),f(A),e(C,D),e(C,E).", "?p.p(A):-e(B,C),f(A),e(C,D).")
	wantSteps(t, "p(1):-e(B,A),g(A),e(C,A),f(C).", "a", "p(1):-e(A,B),g(B),e(C,B),f(C).", "p(1):-g(A),e(B,A),f(B).")
	wantSteps(t, "p(Z):-e(Z).p(Y):-e(Y),f(Y).?q.q(X):-g(X,W).", "r", "p(A):-e(A).p(A):-e(A),f(A).?q.q(A):-g(A,B).", "p(A):-e(A).?q.q(A):-g(A,B).")
	wantSteps(t, "p(Z):-e(Z).p(Y):-e(Y),f(Y).?q.q(X):-g(X,W).", "s", "p(A):-e(A).p(A):-e(A),f(A).?q.q(A):-g(A,B).", "?q.q(A):-g(A,B).")
}

// TestChangeNotAllowed has rules that are implied, but without which a predicate that is still named would no longer be ruled.
func TestChangeNotAllowed(t *testing.T) {
	for _, program := range []string{
		"p(A):-p(A).?p.", "?p.p(A):-p(A).", "p(A):-p(A).q(A):-p(A).?q.", "p(A):-p(A).q(A):-e(A),!p(A).?q.", "p(A):-e(A),p(A).?p.?p.",
		"p(A):-p(A),f(A).q(A):-e(A),p(A).q(A):-g(A),!p(A).", "p(1):-p(1).?p.", "p(A):-p(A).?q.?p.?q.",
		"p(A):-p(A).q(A):-q(A).r(A):-p(A),q(A).?r.", "p(A,B):-p(A,B),q(B).q(A):-q(A),p(A,A).?p.",
	} {
		wantSteps(t, program, "r", program)
		wantSteps(t, program, "rraarr", program)
	}
	// The predicate is no longer named, or another rule has it in its head.
	wantSteps(t, "p(A):-p(A).", "r", "p(A):-p(A).", "")
	wantSteps(t, "p(A):-p(A).?pp.", "r", "p(A):-p(A).?pp.", "?pp.")
	wantSteps(t, "p(A):-p(A).?e.q(A):-e(A).", "r", "p(A):-p(A).?e.q(A):-e(A).", "?e.q(A):-e(A).")
	wantSteps(t, "p(A):-p(A).p(1).?p.", "r", "p(A):-p(A).p(1).?p.", "p(1).?p.")
	wantSteps(t, "p(A):-p(A).p(B):-p(B).?p.", "r", "p(A):-p(A).p(A):-p(A).?p.", "p(A):-p(A).?p.")
	wantSteps(t, "p(A):-p(A).p(B):-p(B).", "r", "p(A):-p(A).p(A):-p(A).", "p(A):-p(A).", "")
	// A predicate that is given need not be ruled.
	wantSteps(t, "p(A):-e(A).p(A):-e(A),f(A).?p.?f.", "r", "p(A):-e(A).p(A):-e(A),f(A).?p.?f.", "p(A):-e(A).?p.?f.")
}

// TestNextChangeAllowed has changes that are not allowed ahead of one that is, which may make them allowed.
func TestNextChangeAllowed(t *testing.T) {
	one := "p(A):-p(A).q(A):-e(A).q(A):-e(A),f(A).?p.?q."
	wantSteps(t, one, "r", one, "p(A):-p(A).q(A):-e(A).?p.?q.")
	two := "p(A):-p(A).r(A):-r(A),p(A).q(A):-e(A),f(A).q(A):-e(A).q(A):-f(A),e(A).?r.?q."
	wantSteps(t, two, "r", two, "p(A):-p(A).r(A):-r(A),p(A).q(A):-e(A).q(A):-f(A),e(A).?r.?q.", "p(A):-p(A).r(A):-r(A),p(A).q(A):-e(A).?r.?q.")
	// Behind the change p is no longer named: then the first one is allowed.
	freed := "p(A):-p(A).q(A):-e(A).q(A):-e(A),p(A).?q."
	wantSteps(t, freed, "r", freed, "p(A):-p(A).q(A):-e(A).?q.", "q(A):-e(A).?q.")
	wantSteps(t, freed, "s", freed)
	wantSteps(t, freed, "rs", freed, "p(A):-p(A).q(A):-e(A).?q.", "q(A):-e(A).?q.")
	chain := "a(A):-a(A).b(A):-b(A),a(A).c(A):-c(A),b(A).d(A):-e(A).d(A):-e(A),c(A).?d."
	wantSteps(t, chain, "r", chain, "a(A):-a(A).b(A):-b(A),a(A).c(A):-c(A),b(A).d(A):-e(A).?d.",
		"a(A):-a(A).b(A):-b(A),a(A).d(A):-e(A).?d.", "a(A):-a(A).d(A):-e(A).?d.", "d(A):-e(A).?d.")
}

func TestWrongPasses(t *testing.T) {
	for c := 0; c < 256; c++ {
		pass := string([]byte{byte(c)})
		if strings.Contains("sarul", pass) {
			wantOptimise(t, way, pass, 9, way, 0)
			wantOptimise(t, way, strings.Repeat(pass, 8), 9, way, 0)
			wantOptimiseError(t, way, strings.Repeat(pass, 9), 9, rulebook.ErrPasses)
			continue
		}
		for at := 0; at < 8; at++ {
			wantOptimiseError(t, way, "sarulsar"[:at]+pass, 9, rulebook.ErrPasses)
			wantOptimiseError(t, way, "sarulsar"[:at]+pass+"sarulsar"[at+1:], 9, rulebook.ErrPasses)
			wantOptimiseError(t, way, "sarulsar"[:at]+pass+"sarulsar"[at+1:], 0, rulebook.ErrPasses)
		}
	}
	for n := 0; n <= 40; n++ {
		passes := strings.Repeat("lurasars", 5)[:n]
		if n <= 8 {
			wantOptimise(t, way, passes, 9, way, 0)
		} else {
			wantOptimiseError(t, way, passes, 9, rulebook.ErrPasses)
		}
	}
	wantOptimiseError(t, threefold, strings.Repeat("s", 256), 1, rulebook.ErrPasses)
	wantOptimiseError(t, threefold, strings.Repeat("s", 257), 1, rulebook.ErrPasses)
}

func TestWrongBudgets(t *testing.T) {
	for _, budget := range []int{-1, -2, -200, math.MinInt, math.MinInt + 1, math.MinInt32, math.MinInt32 - 1, -1 << 32} {
		for _, passes := range []string{"", "s", "sarulsar"} {
			wantOptimiseError(t, way, passes, budget, rulebook.ErrArg)
			wantOptimiseError(t, threefold, passes, budget, rulebook.ErrArg)
			wantOptimiseError(t, "", passes, budget, rulebook.ErrArg)
		}
	}
}

// TestOptimiseFirstError lays each error beside each that is named behind it: the first of them is told.
func TestOptimiseFirstError(t *testing.T) {
	wrongPasses := []string{"x", "S", " ", "s a", "sarulsarx", "sarulsars", strings.Repeat("s", 5000), strings.Repeat("\x00", 601)}
	for _, budget := range []int{math.MinInt, -1, 0, 1, 9, math.MaxInt} {
		for _, p := range wrongPrograms {
			for _, passes := range append(wrongPasses, "", "s", "sarulsar") {
				wantOptimiseError(t, p.text, passes, budget, p.e)
			}
		}
		for _, program := range []string{"", way, threefold, ofLength(t, 600)} {
			for _, passes := range wrongPasses {
				wantOptimiseError(t, program, passes, budget, rulebook.ErrPasses)
			}
		}
	}
	wantOptimiseError(t, ofLength(t, 601), "s", 9, rulebook.ErrLong)
	wantOptimiseError(t, ofLength(t, 601), "x", -1, rulebook.ErrLong)
}
