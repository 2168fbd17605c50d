package rulebook_test

import (
	"math"
	"math/rand"
	"strconv"
	"strings"
	"testing"
	"time"

	"rulebook/rulebook"
)

func wantImplied(t *testing.T, program string, item int, yes bool) {
	t.Helper()
	got, e := rulebook.Implied(program, item)
	if got != yes || e != rulebook.OK {
		t.Errorf("Implied(%.200q, %d) = %v, %d, want %v, OK", program, item, got, e, yes)
	}
}

// wantEachImplied tells of each item of a program whether it is implied, in a text of y, n and, for an output, -.
func wantEachImplied(t *testing.T, program, each string) {
	t.Helper()
	for item, c := range each {
		if c == '-' {
			wantImpliedError(t, program, item, rulebook.ErrArg)
		} else {
			wantImplied(t, program, item, c == 'y')
		}
	}
	wantImpliedError(t, program, len(each), rulebook.ErrArg)
}

func wantImpliedError(t *testing.T, program string, item int, e rulebook.Errno) {
	t.Helper()
	got, gotE := rulebook.Implied(program, item)
	if got || gotE != e {
		t.Errorf("Implied(%.200q, %d) = %v, %d, want error %d", program, item, got, gotE, e)
	}
}

func TestImpliedDocumentExample(t *testing.T) {
	wantImplied(t, "p(A):-e(A,B),f(B).p(A):-e(A,B).", 0, true)
	wantImplied(t, "p(A):-e(A,B),f(B).p(A):-e(A,B).", 1, false)
}

func TestImpliedByOneRule(t *testing.T) {
	wantEachImplied(t, "p(A):-e(A,B).p(X):-e(X,Y).", "yy")
	wantEachImplied(t, "p(A):-e(A,A).p(A):-e(A,B).", "yn")
	wantEachImplied(t, "p(A,A):-e(A).p(A,B):-e(A),e(B).", "yn")
	wantEachImplied(t, "p(A,B):-e(A,B).p(B,A):-e(A,B).", "nn")
	wantEachImplied(t, "p(A,B):-e(A,B),e(B,A).p(B,A):-e(A,B).", "yn")
	wantEachImplied(t, "p(A):-f(A),e(A).p(A):-e(A),f(A).", "yy")
	wantEachImplied(t, "p(A):-e(A).q(A):-e(A).", "nn")
	wantEachImplied(t, "p(A):-e(A).p(A):-f(A).", "nn")
	wantEachImplied(t, "p(A,B):-e(A,C),e(C,B).p(A,B):-e(A,C),e(D,B).", "yn")
	wantEachImplied(t, "p(1):-e(A),e(B),e(C).p(1):-e(A).", "yy")
	wantEachImplied(t, "p(A):-e(A),e(B),f(B).p(A):-e(A),f(A).", "ny")
}

func TestImpliedNumbers(t *testing.T) {
	wantEachImplied(t, "p(A):-e(A,1).p(A):-e(A,B).", "yn")
	wantEachImplied(t, "p(1).p(A):-e(A).", "nn")
	wantEachImplied(t, "p(1):-e(1).p(A):-e(A).", "yn")
	wantEachImplied(t, "p(1):-e(A).p(A):-e(A).", "nn")
	wantEachImplied(t, "p(1).p(1).p(2).", "yyn")
	wantEachImplied(t, "p(1).p(1):-e(A).p(2):-e(A).", "nyn")
	wantEachImplied(t, "p(1):-e(1),e(2).p(1):-e(2).p(2):-e(1).", "ynn")
	wantEachImplied(t, "p(0):-e(0,999).p(A):-e(A,B).p(B):-e(0,B).", "ynn")
	// What is put for a variable stands nowhere in the program: not as the first numbers, the last, or a letter's place.
	for _, n := range []string{"0", "1", "2", "10", "100", "998", "999", "25", "65", "90"} {
		wantEachImplied(t, "p(A):-e(A).p("+n+"):-e("+n+").", "ny")
		wantEachImplied(t, "p(A,B):-e(A,B).p("+n+",B):-e("+n+",B).p(A,"+n+"):-e(A,"+n+").", "nyy")
		wantEachImplied(t, "p(Z):-e(Z).p(Z):-e(Z),f("+n+").p(Z):-e("+n+"),f(Z).", "nyn")
	}
	// Each variable has one of its own.
	for a := 'A'; a <= 'Z'; a++ {
		for b := 'A'; b <= 'Z'; b++ {
			rule := "p(" + string(a) + "):-e(" + string(a) + "," + string(b) + ")."
			wantImplied(t, "p(A):-e(A,A)."+rule, 1, a == b)
			wantImplied(t, rule+"p(A):-e(A,B).", 0, true)
		}
	}
}

func TestImpliedBySteps(t *testing.T) {
	wantEachImplied(t, way+"p(A,B):-e(A,C),e(C,B).", "nn-y")
	wantEachImplied(t, way+"p(A,B):-e(A,C),e(C,D),e(D,E),e(E,F),e(F,B).", "nn-y")
	wantEachImplied(t, way+"p(A,B):-p(A,C),p(C,B).", "ny-n")
	wantEachImplied(t, way+"p(A,B):-p(A,C),e(C,B).", "nn-n")
	wantEachImplied(t, "?p.p(A,B):-p(A,C),p(C,B).p(A,B):-e(A,B).p(A,B):-e(A,C),p(C,B).p(A,B):-p(A,C),e(C,B).", "-nnyy")
	wantEachImplied(t, "q(A):-e(A).p(A):-q(A).p(A):-e(A),f(A).", "nny")
	wantEachImplied(t, "d(A):-c(A).c(A):-b(A).b(A):-a(A).d(A):-a(A).", "nnny")
	wantEachImplied(t, "d(A):-a(A).b(A):-a(A).c(A):-b(A).d(A):-c(A).", "ynnn")
	wantEachImplied(t, "p(A):-q(A).q(A):-p(A).", "nn")
	wantEachImplied(t, "p(A):-q(A).q(A):-r(A).r(A):-p(A).p(A):-r(A).q(A):-p(A).r(A):-q(A).", "yyyyyy")
	// A rule of the program may bring what no literal of the body has become.
	wantEachImplied(t, "f(7).p(A):-e(A),f(B).p(A):-e(A).", "nyy")
	wantEachImplied(t, "f(7).p(A):-e(A),f(B).p(A):-e(A),g(A).p(9):-g(7).", "nnyn")
	wantEachImplied(t, "a(1).b(A):-a(A).c(1):-b(1).c(1).", "nnyy")
}

// TestImpliedByItself has rules whose head is among the tuples of the body, and rules that could follow from themselves alone.
func TestImpliedByItself(t *testing.T) {
	wantEachImplied(t, "p(A):-p(A).", "y")
	wantEachImplied(t, "p(A):-e(A),p(A).", "y")
	wantEachImplied(t, "p(1):-p(1),!e(1).", "y")
	wantEachImplied(t, "p(A,B):-p(B,A).", "n")
	wantEachImplied(t, "p(A,B):-p(A,C),p(C,B).", "n")
	wantEachImplied(t, "p(A,A):-p(A,B).p(1,2).", "nn")
	wantEachImplied(t, "p(A,B,C):-p(B,C,A).", "n")
	wantEachImplied(t, "p(A,B,C):-p(B,C,A).p(A,B,C):-p(C,A,B).", "yy")
	wantEachImplied(t, "p(1).", "n")
	wantEachImplied(t, "p(A):-e(A).", "n")
	wantEachImplied(t, "?p.", "-")
	wantEachImplied(t, "", "")
}

func TestImpliedNegated(t *testing.T) {
	wantEachImplied(t, "p(A):-e(A),!f(A).p(A):-e(A).", "yn")
	wantEachImplied(t, "p(A):-e(A),!f(A),!g(A).p(A):-e(A),!f(A).", "yn")
	wantEachImplied(t, "p(A):-e(A),!f(A).p(A):-e(A),f(A).", "nn")
	wantEachImplied(t, "p(A):-e(A),f(A).p(A):-e(A),!g(A).", "nn")
	wantEachImplied(t, "p(A,B):-e(A),e(B),!f(A,B).p(A,B):-e(A),e(B),!f(B,A).", "nn")
	wantEachImplied(t, "p(A,B):-e(A),e(B),!f(A,B),!f(B,A).p(A,B):-e(A),e(B),!f(B,A).", "yn")
	wantEachImplied(t, "p(1):-!e(1).p(1):-!e(1),!f(2).p(1):-!e(2).", "nyn")
	wantEachImplied(t, "p(1):-!e(1),!e(1).p(1):-!e(1).", "yy")
	wantEachImplied(t, "p(A):-g(A),!q(A).p(A):-g(A),!e(A).q(A):-e(A).", "nnn")
	wantEachImplied(t, "p(A):-g(A),!q(A).p(A):-g(A),!e(A).q(A):-e(A).p(A):-g(A),!q(A),!e(A).", "nnny")
	wantEachImplied(t, "q(A):-e(A).p(A):-g(A),!q(A).p(A):-g(A),!q(A),f(A).", "nny")
	wantEachImplied(t, "q(A):-e(A),!f(A).p(A):-q(A).p(A):-e(A),!f(A).p(A):-e(A),!f(1).", "nnyn")
	// Whatever is so besides, a tuple of "not" a predicate is one: nothing that follows takes it away, and nothing adds one.
	wantEachImplied(t, "p(A):-f(A),!f(A).", "n")
	wantEachImplied(t, "p(A):-f(A),!f(A).p(A):-f(A).", "yn")
	wantEachImplied(t, "p(A):-f(A),g(A),!f(A).p(A):-g(A),!f(A).", "yn")
	wantEachImplied(t, "p(A):-e(A),f(A),!q(A).q(A):-e(A).p(A):-f(A),!q(A).", "ynn")
	wantEachImplied(t, "q(A):-e(A).p(A):-e(A),!q(A).p(A):-q(A),!q(A).", "nyn")
	wantEachImplied(t, "q(1):-e(1).p(1):-!q(1).p(1):-!e(1).", "nnn")
	// "not" a predicate is another than each that the program names.
	wantEachImplied(t, "note(A):-e(A).p(A):-e(A),f(A).p(A):-e(A),!e(A).", "nnn")
	wantEachImplied(t, "a(A):-b(A),!c(A).d(A):-b(A),c(A).d(A):-b(A),!c(A).a(A):-d(A),b(A).", "ynnn")
	for _, p := range []string{"a", "b", "c", "x", "not", "nota", "note", "z"} {
		program := "p(A):-" + p + "(A),e(A).p(A):-e(A),!e(A).p(A):-e(A),!n(A).n(A):-e(A)," + p + "(A).?" + p + "."
		wantEachImplied(t, program, "nnnn-")
	}
}

// full has 197 tuples when its item 0 is asked about, whose head is one of them: two of the body that is not given here, and
// those of five numbers that follow.
func full(body string, more string) string {
	return "p(A):-" + body + ".e(A):-k(A,B,C).e(B):-k(A,B,C).e(C):-k(A,B,C).p(A):-e(A).t(A,B,C):-e(A),e(B),e(C).u(A,B):-e(A),e(B)." +
		"v(A,B):-u(A,B).w(A):-e(A).x(A):-e(A)." + more
}

// TestImpliedManyTuples has 200 tuples, which is as many as may be, or 201.
func TestImpliedManyTuples(t *testing.T) {
	two := "k(A,B,C),k(A,D,E)"
	wantImplied(t, full(two, ""), 0, true)
	wantImplied(t, full(two, "y(1).y(2)."), 0, true)
	wantImplied(t, full(two, "y(1).y(2).y(3)."), 0, true)
	wantImplied(t, full(two, "y(1).y(2).y(3).y(4)."), 0, false)
	wantImplied(t, full(two, "y(1).y(2).y(3).y(3)."), 0, true)
	wantImplied(t, full(two, "y(1).y(2).y(3).?y.?p."), 0, true)
	wantImplied(t, full(two, "y(1).y(2).y(3).z(1):-y(4)."), 0, true)
	wantImplied(t, full(two, "y(1).y(2).y(3).z(1):-y(3)."), 0, false)
	wantImplied(t, full(two, "y(1).y(2).y(3).z(1):-!y(4)."), 0, true)
	// The tuples of the body are among them, each once, and those of "not" a predicate too.
	wantImplied(t, full(two+",k(A,B,C)", "y(1).y(2).y(3)."), 0, true)
	wantImplied(t, full(two+",f(A)", "y(1).y(2)."), 0, true)
	wantImplied(t, full(two+",f(A)", "y(1).y(2).y(3)."), 0, false)
	wantImplied(t, full(two+",!f(A)", "y(1).y(2)."), 0, true)
	wantImplied(t, full(two+",!f(A)", "y(1).y(2).y(3)."), 0, false)
	wantImplied(t, full(two+",!f(A),!f(A)", "y(1).y(2)."), 0, true)
	wantImplied(t, full(two+",f(A),!f(A)", "y(1).y(2)."), 0, false)
	wantImplied(t, full(two+",f(A),!f(A)", "y(1)."), 0, true)
	// A tuple of the body that follows besides counts once.
	wantImplied(t, full(two+",t(A,B,C),u(A,E)", "y(1).y(2).y(3)."), 0, true)
	wantImplied(t, full(two+",y(1),y(3)", "y(1).y(2).y(3)."), 0, true)
	wantImplied(t, full(two+",y(1),y(4)", "y(1).y(2).y(3)."), 0, false)
	// With too many it is not implied, even where the head is a tuple of the body.
	wantImplied(t, full(two+",p(A)", "y(1).y(2).y(3)."), 0, true)
	wantImplied(t, full(two+",p(A)", "y(1).y(2).y(3).y(4)."), 0, false)
	// 200 tuples, but not what the head has become.
	wantImplied(t, strings.ReplaceAll(full(two, "y(1).y(2).y(3)."), "p(A):-e", "q(A):-e"), 0, false)
}

// TestImpliedItems asks about items that are not the first, and about numbers that no item has.
func TestImpliedItems(t *testing.T) {
	wantEachImplied(t, "?p.p(A):-e(A),f(A).?e.p(A):-e(A).?p.p(A):-f(A),!g(A).?f.", "-y-n-n-")
	wantEachImplied(t, strings.Repeat("?p.", 14)+"p(A):-e(A).p(A):-e(A),f(A).", "--------------ny")
	wantEachImplied(t, strings.Repeat("p(1).", 16), "yyyyyyyyyyyyyyyy")
	for _, item := range []int{2, 3, 16, 17, -1, -2, math.MaxInt, math.MinInt, math.MaxInt32, math.MinInt32} {
		wantImpliedError(t, "p(1).p(1).", item, rulebook.ErrArg)
		wantImpliedError(t, "", item, rulebook.ErrArg)
		wantImpliedError(t, "?p.", item, rulebook.ErrArg)
	}
	for _, p := range wrongPrograms {
		for _, item := range []int{-1, 0, 1, 16, math.MaxInt, math.MinInt} {
			wantImpliedError(t, p.text, item, p.e)
		}
	}
}

// plainlyImplied follows the document's words as they stand, on top of a plain model: what is negated has a predicate "no.".
func plainlyImplied(items []madeItem, at int) (bool, int) {
	others := []madeItem{}
	for i, it := range items {
		if i != at && it.output == "" {
			others = append(others, withoutNot(it))
		}
	}
	rule := withoutNot(items[at])
	for v := 'A'; v <= 'Z'; v++ {
		rule = putInto(rule, string(v), strconv.Itoa(5000-int(v)))
	}
	m := plainlyFollow(others, rule.atoms[1:])
	return len(m.tuples) <= 200 && m.tuples[rule.atoms[0].String()], len(m.tuples)
}

func withoutNot(it madeItem) madeItem {
	out := madeItem{}
	for _, a := range it.atoms {
		if a.negated {
			a = madeAtom{predicate: "no." + a.predicate, terms: a.terms}
		}
		out.atoms = append(out.atoms, a)
	}
	return out
}

// makeImplied makes rules that are much alike, and one that has a literal more than another, or fewer variables.
func makeImplied(r *rand.Rand) []madeItem {
	items := []madeItem{}
	for n := 1 + r.Intn(4); n > 0; n-- {
		items = append(items, makeImpliedRule(r))
	}
	it := items[r.Intn(len(items))]
	vars := []string{"A", "B", "C"}
	changed := putInto(it, vars[r.Intn(3)], vars[r.Intn(3)])
	if len(changed.atoms) < 5 {
		a := makeRunAtom(r, 0, 7, vars)
		a.negated = r.Intn(4) == 0
		changed.atoms = append(changed.atoms, a)
	}
	items = append(items, safely(changed))
	out := []madeItem{}
	for _, i := range r.Perm(len(items)) {
		out = append(out, items[i])
	}
	return append(out, madeItem{output: "q"})
}

func makeImpliedRule(r *rand.Rand) madeItem {
	terms := []string{"A", "B", "C", "A", "B", "C", "A", "B", "C", "12"}
	it := madeItem{atoms: []madeAtom{makeRunAtom(r, 3, 6, terms)}}
	for n := 1 + r.Intn(3); n > 0; n-- {
		a := makeRunAtom(r, 0, 4+r.Intn(4), terms)
		a.negated = r.Intn(4) == 0
		it.atoms = append(it.atoms, a)
	}
	return boundly(r, it)
}

func TestMadeImplied(t *testing.T) {
	r := rand.New(rand.NewSource(6))
	seen := map[string]int{}
	for n := 0; n < 2500; n++ {
		items := makeImplied(r)
		program := programOf(items)
		e, _ := wantedCheck(items)
		for at := range items {
			if e != rulebook.OK {
				seen["refused"]++
				wantImpliedError(t, program, at, e)
				continue
			}
			if items[at].output != "" {
				wantImpliedError(t, program, at, rulebook.ErrArg)
				continue
			}
			yes, tuples := plainlyImplied(items, at)
			wantImplied(t, program, at, yes)
			_, inBody, _ := strings.Cut(items[at].String(), ":-")
			if !yes {
				seen["not implied"]++
			} else if strings.Contains(inBody, items[at].atoms[0].String()) {
				seen["implied, head in body"]++
			} else if strings.Contains(inBody, "!") {
				seen["implied, negated"]++
			} else {
				seen["implied"]++
			}
			if tuples > len(items[at].atoms) {
				seen["several steps"]++
			}
		}
	}
	for _, kind := range []string{"refused", "not implied", "implied", "implied, negated", "implied, head in body", "several steps"} {
		if seen[kind] < 100 {
			t.Errorf("the programs made are too much alike: %v", seen)
		}
	}
}

// TestImpliedNothingInCommon has rules whose literals have nothing in common, or little, with many tuples for each.
func TestImpliedNothingInCommon(t *testing.T) {
	wide := "p(A):-k(A,B,C),k(D,E,F),k(G,H,I),k(J,K,L),k(M,N,O).e(A):-k(A,B,C).e(B):-k(A,B,C).e(C):-k(A,B,C)."
	five := "p(A):-k(A,B,C),k(C,D,E),k(E,F,G).e(A):-k(A,B,C).e(B):-k(A,B,C).e(C):-k(A,B,C).r(A,B):-e(A),e(B)."
	for _, c := range []struct {
		program string
		yes     bool
	}{
		{wide + "p(A):-e(A),e(B),e(C),e(D),e(E).", true},
		{wide + "p(A):-e(A),e(B),e(C),e(D),f(E).", false},
		{wide + "p(A):-e(A),e(B),e(C),e(E),!f(E).", false},
		{wide + "t(A,B,C):-e(A),e(B),e(C).p(A):-e(A).", false},
		{wide + "r(A,B):-e(A),e(B).p(A):-e(A).", false},
		{five + "p(A):-r(A,B),r(C,D),r(E,F),r(G,H),r(I,J).", true},
		{five + "p(A):-r(A,B),r(C,D),r(E,F),r(G,H),r(I,7).", false},
		{five + "p(A):-r(A,B),r(B,C),r(C,D),r(D,E),r(E,A).", true},
		{five + "p(A):-r(A,B),r(B,C),r(C,D),r(D,E),!r(E,A).", false},
		{five + "q(A,B):-r(A,C),r(C,D),r(D,E),r(E,F),r(F,B).p(A):-q(A,B),q(C,D),q(E,F),q(G,H),q(I,A).", true},
		{five + "s(1):-k(A,B,C),r(D,E),k(F,G,H),r(I,J),k(K,L,M).p(A):-s(1),e(A).", true},
	} {
		from := time.Now()
		wantImplied(t, c.program, 0, c.yes)
		if took := time.Since(from); took > 5*time.Second {
			t.Errorf("Implied(%q, 0) took %v", c.program, took)
		}
	}
}
