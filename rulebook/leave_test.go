package rulebook_test

import (
	"math/rand"
	"strings"
	"testing"

	"rulebook/rulebook"
)

// wantKept asks the pass s for a program of rules and outputs in their printed form: those marked with - are left out, in one change.
func wantKept(t *testing.T, items ...string) {
	t.Helper()
	program, kept := "", ""
	for _, it := range items {
		text := strings.TrimPrefix(it, "-")
		program += text
		if text == it {
			kept += it
		}
	}
	if program == kept {
		wantSteps(t, program, "s", program)
	} else {
		wantSteps(t, program, "s", program, kept)
		wantSteps(t, program, "ss", program, kept)
	}
}

func TestUnwanted(t *testing.T) {
	wantKept(t, "p(A):-e(A).", "-q(A):-p(A).", "-r(A):-q(A).", "?p.")
	wantKept(t, "?p.", "-r(A):-q(A).", "-q(A):-p(A).", "p(A):-e(A).")
	wantKept(t, "-p(A):-e(A).")
	wantKept(t, "-p(1).", "-p(2).", "-q(A):-p(A).")
	wantKept(t, "-p(1).", "?q.", "?e.")
	wantKept(t, "-a(1).", "-b(1).", "?c.", "c(A):-d(A).", "-b(2).", "?d.", "c(3).", "-a(2).")
	// All rules of a predicate that is wanted stay, and all that it uses, in however many steps.
	wantKept(t, "p(1).", "p(A):-e(A),q(A).", "p(A):-r(A).", "q(A):-s(A).", "s(A):-t(A,B),u(B).", "u(1).", "r(A):-e(A).", "-v(A):-u(A).", "?p.")
	wantKept(t, "e(A):-f(A).", "d(A):-e(A).", "c(A):-d(A).", "b(A):-c(A).", "a(A):-b(A).", "?a.")
	wantKept(t, "e(A):-f(A).", "d(A):-e(A).", "-c(A):-d(A).", "-b(A):-c(A).", "-a(A):-b(A).", "?d.")
	wantKept(t, "-a(A):-b(A).", "-b(A):-c(A).", "-c(A):-d(A).", "-d(A):-e(A).", "e(A):-f(A).", "?e.")
	// One that stands negated is used.
	wantKept(t, "n(A):-v(A),!p(A).", "p(A):-e(A),!q(A).", "q(A):-f(A).", "-r(A):-v(A),!n(A).", "?n.")
	// Predicates that use themselves, or each other, are not wanted for that.
	wantKept(t, "-p(A):-q(A).", "-q(A):-p(A).", "r(A):-e(A).", "?r.")
	wantKept(t, "p(A):-q(A).", "q(A):-p(A).", "-r(A):-r(A),p(A).", "?q.")
	// Outputs stay, and more than one has its own.
	wantKept(t, "?p.", "?q.", "p(1).", "q(A):-r(A).", "r(2).", "-s(A):-p(A),q(A).", "?p.")
	wantKept(t, "?r.", "?e.", "?f.", "-p(A):-e(A),f(A).", "?e.")
	wantKept(t, "p(A):-e(A).", "-pp(A):-e(A).", "-pe(1).", "-ep(1,2,3):-p(1).", "?p.")
}

// TestUnwantedGiven has no rule of what is asked for: no rule is wanted, and all go.
func TestUnwantedGiven(t *testing.T) {
	wantKept(t, "-p(A):-e(A).", "?e.")
	wantKept(t, "-p(A):-e(A).", "?x.")
	wantKept(t, "?x.")
	wantKept(t)
	wantKept(t, "-p(A):-e(A).", "-p(A):-f(A).", "-q(A):-p(A).", "-q(A):-q(A).", "-r(A):-e(A),!q(A).")
}

func TestSpareLeftOut(t *testing.T) {
	wantSteps(t, "p(X):-e(X,Y),e(X,Z),e(X,W).?p.", "a", "p(A):-e(A,B),e(A,C),e(A,D).?p.", "p(A):-e(A,B),e(A,C).?p.", "p(A):-e(A,B).?p.")
	wantSteps(t, "p(A):-e(A,B),e(A,C),!f(B),!f(C).", "a", "p(A):-e(A,B),e(A,C),!f(B),!f(C).", "p(A):-e(A,B),e(A,C),!f(C).", "p(A):-e(A,B),!f(B).")
	wantSteps(t, "p(A):-e(A,A),e(A,B),e(B,A).", "a", "p(A):-e(A,A),e(A,B),e(B,A).", "p(A):-e(A,A),e(B,A).", "p(A):-e(A,A).")
	wantSteps(t, "p(A):-e(A,B),e(B,A).", "a", "p(A):-e(A,B),e(B,A).")
	wantSteps(t, "p(1):-e(1),e(1),e(2).", "a", "p(1):-e(1),e(1),e(2).", "p(1):-e(1),e(2).")
	wantSteps(t, "p(1):-!e(1),!e(1).", "a", "p(1):-!e(1),!e(1).", "p(1):-!e(1).")
	wantSteps(t, "p(A):-e(A),!e(A).", "a", "p(A):-e(A),!e(A).")
	wantSteps(t, "p(A):-p(A),p(A).?p.", "a", "p(A):-p(A),p(A).?p.", "p(A):-p(A).?p.")
	wantSteps(t, "p(1).p(A):-e(A).?p.", "a", "p(1).p(A):-e(A).?p.")
	// The other literal of its predicate stays, and so q is wanted.
	wantSteps(t, "p(A):-e(A),q(A),q(B).q(A):-f(A).?p.", "as", "p(A):-e(A),q(A),q(B).q(A):-f(A).?p.", "p(A):-e(A),q(A).q(A):-f(A).?p.")
	// Without it the rule would not be safe.
	wantSteps(t, "p(A):-e(A),e(B),!f(B).", "a", "p(A):-e(A),e(B),!f(B).")
	wantSteps(t, "p(A):-e(A),e(B),!f(B),!f(A).", "a", "p(A):-e(A),e(B),!f(B),!f(A).", "p(A):-e(A),e(B),!f(A).", "p(A):-e(A),!f(A).")
}

// TestSpareFirst has several spare literals: the first item's come first, and in it the first literal.
func TestSpareFirst(t *testing.T) {
	two := "p(A,B):-e(A,B),e(A,C).q(A):-f(A),f(A)."
	wantSteps(t, two, "a", two, "p(A,B):-e(A,B).q(A):-f(A),f(A).", "p(A,B):-e(A,B).q(A):-f(A).")
	last := "?p.p(1).p(A):-e(A).q(A):-f(A),g(A).?q.r(A):-g(A),f(A),h(A),f(A).s(A):-e(B),e(A)."
	wantSteps(t, last, "a", "?p.p(1).p(A):-e(A).q(A):-f(A),g(A).?q.r(A):-g(A),f(A),h(A),f(A).s(A):-e(B),e(A).",
		"?p.p(1).p(A):-e(A).q(A):-f(A),g(A).?q.r(A):-g(A),h(A),f(A).s(A):-e(B),e(A).", "?p.p(1).p(A):-e(A).q(A):-f(A),g(A).?q.r(A):-g(A),h(A),f(A).s(A):-e(A).")
	// Either of two like literals may go, with something between them by which to tell which of them went.
	wantSteps(t, "p(A):-e(A,B),g(A),e(A,C).", "a", "p(A):-e(A,B),g(A),e(A,C).", "p(A):-g(A),e(A,B).")
	wantSteps(t, "p(A):-g(A),e(A,1),e(A,B),h(A),e(A,1).", "a", "p(A):-g(A),e(A,1),e(A,B),h(A),e(A,1).", "p(A):-g(A),e(A,B),h(A),e(A,1).", "p(A):-g(A),h(A),e(A,1).")
	// Behind a change the literals are asked about anew, from the first on.
	wantSteps(t, "p(1):-e(A,B),e(B,C),e(D,D),e(D,E).", "a", "p(1):-e(A,B),e(B,C),e(D,D),e(D,E).", "p(1):-e(A,B),e(C,C),e(C,D).", "p(1):-e(A,A),e(A,B).", "p(1):-e(A,A).")
}

func TestImpliedLeftOut(t *testing.T) {
	wantSteps(t, "p(A):-p(A).p(A):-e(A).?p.", "r", "p(A):-p(A).p(A):-e(A).?p.", "p(A):-e(A).?p.")
	wantSteps(t, "p(Z):-e(Z).p(X):-e(X).p(Y):-e(Y).?p.", "r", "p(A):-e(A).p(A):-e(A).p(A):-e(A).?p.", "p(A):-e(A).p(A):-e(A).?p.", "p(A):-e(A).?p.")
	wantSteps(t, way+"p(A,B):-e(A,C),e(C,B).", "r", way+"p(A,B):-e(A,C),e(C,B).", way)
	wantSteps(t, "?p.p(A,B):-p(A,C),p(C,B)."+way[:len(way)-3], "r", "?p.p(A,B):-p(A,C),p(C,B)."+way[:len(way)-3], "?p.p(A,B):-p(A,C),p(C,B).p(A,B):-e(A,B).")
	wantSteps(t, "p(A):-e(A),!f(A).p(A):-e(A).p(A):-e(A),f(A).?p.", "r", "p(A):-e(A),!f(A).p(A):-e(A).p(A):-e(A),f(A).?p.", "p(A):-e(A).p(A):-e(A),f(A).?p.", "p(A):-e(A).?p.")
	wantSteps(t, "p(A):-e(A),!f(A).p(A):-e(A),f(A).?p.", "r", "p(A):-e(A),!f(A).p(A):-e(A),f(A).?p.")
	wantSteps(t, "p(A):-e(A).q(A):-e(A).?p.?q.", "r", "p(A):-e(A).q(A):-e(A).?p.?q.")
	// A rule that is not wanted is implied or not as any other.
	wantSteps(t, "q(A):-p(A).q(A):-e(A).p(A):-e(A).?p.", "r", "q(A):-p(A).q(A):-e(A).p(A):-e(A).?p.", "q(A):-p(A).p(A):-e(A).?p.")
	tuples := full("k(A,B,C),k(A,D,E)", "y(1).y(2).y(3).")
	wantSteps(t, tuples, "r", wantedPrint(tuples), wantedPrint(tuples)[len("p(A):-k(A,B,C),k(A,D,E)."):])
	wantSteps(t, tuples+"y(4).", "r", wantedPrint(tuples)+"y(4).")
	// The fact implies the six other rules of its predicate.
	long := ofLength(t, 600)
	wantOptimise(t, long, "r", 9, long[strings.Index(long, ":-aaaaaa(100,200,300).")+22:], 6)
}

// TestImpliedFirst has several rules that are implied: the first goes first, and then the others may not be.
func TestImpliedFirst(t *testing.T) {
	wantSteps(t, "p(A):-e(A),f(A).p(A):-f(A),e(A).?p.", "r", "p(A):-e(A),f(A).p(A):-f(A),e(A).?p.", "p(A):-f(A),e(A).?p.")
	wantSteps(t, "?p.p(A):-f(A),e(A).?e.p(A):-e(A),f(A).", "r", "?p.p(A):-f(A),e(A).?e.p(A):-e(A),f(A).", "?p.?e.p(A):-e(A),f(A).")
	wantSteps(t, "p(A):-e(A),e(B).q(1).p(A):-e(A).q(1):-e(A).", "r", "p(A):-e(A),e(B).q(1).p(A):-e(A).q(1):-e(A).", "q(1).p(A):-e(A).q(1):-e(A).", "q(1).p(A):-e(A).")
	circle := "p(A):-q(A).q(A):-r(A).r(A):-p(A).p(A):-r(A).q(A):-p(A).r(A):-q(A)."
	wantSteps(t, circle, "r", circle, "q(A):-r(A).r(A):-p(A).p(A):-r(A).q(A):-p(A).r(A):-q(A).", "r(A):-p(A).p(A):-r(A).q(A):-p(A).r(A):-q(A).", "p(A):-r(A).q(A):-p(A).r(A):-q(A).")
	wantSteps(t, strings.Repeat("p(1).", 4)+"?p.", "r", "p(1).p(1).p(1).p(1).?p.", "p(1).p(1).p(1).?p.", "p(1).p(1).?p.", "p(1).?p.")
}

// A plainProgram is changed as the document's words say it, without reading any text.
type plainProgram []madeItem

func (p plainProgram) wanted(predicate string) bool {
	for _, it := range p {
		if it.output != "" && (it.output == predicate || reached(p, it.output)[predicate]) {
			return true
		}
	}
	return false
}

func (p plainProgram) ruled() map[string]bool {
	ruled := map[string]bool{}
	for _, it := range p {
		if it.output == "" {
			ruled[it.atoms[0].predicate] = true
		}
	}
	return ruled
}

// allows tells whether the change to another program is allowed.
func (p plainProgram) allows(next plainProgram) bool {
	e, _ := wantedCheck(next)
	if e != rulebook.OK || len(programOf(next)) > 600 || len(next) > 16 {
		return false
	}
	for _, it := range next {
		if len(it.atoms) > 6 {
			return false
		}
	}
	ruled := next.ruled()
	for predicate := range p.ruled() {
		for _, it := range next {
			named := it.output == predicate
			for _, a := range it.atoms {
				named = named || a.predicate == predicate
			}
			if named && !ruled[predicate] {
				return false
			}
		}
	}
	return true
}

// with is the program with others in place of the item at a place.
func (p plainProgram) with(at int, others ...madeItem) plainProgram {
	next := append(plainProgram{}, p[:at]...)
	next = append(next, others...)
	return append(next, p[at+1:]...)
}

// changes lists all that a pass could do, in their order, whether they are allowed or not.
func (p plainProgram) changes(pass byte) []plainProgram {
	found := []plainProgram{}
	kept := plainProgram{}
	for i, it := range p {
		if it.output != "" || p.wanted(it.atoms[0].predicate) {
			kept = append(kept, it)
		}
		if it.output != "" {
			continue
		}
		if pass == 'a' {
			for at := range it.atoms[1:] {
				if p.spare(i, at) {
					left := append(append([]madeAtom{}, it.atoms[:at+1]...), it.atoms[at+2:]...)
					found = append(found, p.with(i, madeItem{atoms: left}))
				}
			}
		}
		if pass == 'r' {
			if p.implied(i) {
				found = append(found, p.with(i))
			}
		}
		if pass == 'u' {
			found = append(found, p.unfoldings(i)...)
		}
		if pass == 'l' {
			found = append(found, p.linear(i)...)
		}
	}
	if pass == 's' && len(kept) < len(p) {
		found = append(found, kept)
	}
	return found
}

// few tells whether the rules have so few variables that a test comes to its end which tries all that can be put for them.
func (p plainProgram) few() bool {
	for _, it := range p {
		if it.output == "" && len(printedOf(it.String()).variables) > 4 {
			return false
		}
	}
	return true
}

// spare asks Spare where there are too many variables for the plain way, which other tests hold it against.
func (p plainProgram) spare(i, at int) bool {
	if p.few() {
		printed := printedOf(p[i].String())
		return printed.safeWithout(at) && printed.any(at, nil)
	}
	_, e := rulebook.Spare(programOf(p), i, at)
	return e == rulebook.OK
}

// implied asks Implied where there are too many variables for the plain way, which other tests hold it against.
func (p plainProgram) implied(i int) bool {
	if p.few() {
		yes, _ := plainlyImplied(p, i)
		return yes
	}
	yes, _ := rulebook.Implied(programOf(p), i)
	return yes
}

// optimised counts in seen what it has come upon.
func (p plainProgram) optimised(passes string, budget int, seen map[string]int) (plainProgram, int) {
	made := 0
	for i := range passes {
		for again := true; again; {
			again = false
			for n, next := range p.changes(passes[i]) {
				if made == budget {
					seen["budget used up"]++
					return p, made
				}
				if p.allows(next) {
					seen[passes[i:i+1]]++
					if n > 0 {
						seen["not allowed, and the next"]++
					}
					p = next
					made++
					again = true
					break
				}
				seen["not allowed"]++
			}
		}
	}
	return p, made
}

// makeOptimise makes a program in which some literals are spare, some rules implied and some not wanted.
func makeOptimise(r *rand.Rand) plainProgram {
	items := []madeItem{}
	for _, it := range makeImplied(r) {
		if it.output == "" && len(it.atoms) < 5 && r.Intn(2) == 0 {
			vars := []string{"A", "B", "C", "D"}
			again := putInto(madeItem{atoms: it.atoms[1:]}, vars[r.Intn(3)], vars[r.Intn(4)]).atoms
			it.atoms = append(append([]madeAtom{}, it.atoms...), again[r.Intn(len(again))])
			it = safely(it)
		}
		items = append(items, it)
	}
	if r.Intn(2) == 0 {
		head := makeRunAtom(r, 3, 7, []string{"A", "B", "C"})
		items = append(items, madeItem{atoms: []madeAtom{head, head}})
	}
	for n := r.Intn(3); n > 0; n-- {
		items = append(items, madeItem{output: runPredicates[r.Intn(len(runPredicates))].name})
	}
	mixed := plainProgram{}
	for _, i := range r.Perm(len(items)) {
		mixed = append(mixed, items[i])
	}
	return mixed
}

func TestMadeOptimise(t *testing.T) {
	r := rand.New(rand.NewSource(7))
	seen := map[string]int{}
	for n := 0; n < 6000; n++ {
		items := makeOptimise(r)
		program := programOf(items)
		passes := ""
		for len(passes) < r.Intn(6) {
			passes += "sar"[r.Intn(3):][:1]
		}
		budget := []int{r.Intn(4), 100}[r.Intn(2)]
		e, _ := wantedCheck(items)
		if e != rulebook.OK {
			seen["refused"]++
			wantOptimiseError(t, program, passes, budget, e)
			continue
		}
		smaller, made := items.optimised(passes, budget, seen)
		wantOptimise(t, program, passes, budget, wantedPrint(programOf(smaller)), made)
		wantSameFollows(t, program, programOf(smaller), makeFacts(r, ""))
	}
	for _, kind := range []string{"refused", "s", "a", "r", "not allowed", "not allowed, and the next", "budget used up"} {
		if seen[kind] < 100 {
			t.Errorf("the programs made are too much alike: %v", seen)
		}
	}
}
