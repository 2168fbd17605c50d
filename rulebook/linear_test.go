package rulebook_test

import (
	"math/rand"
	"strings"
	"testing"
)

// wantLinear asks the pass l, alone and several times: the texts are the program, as Print tells it, and what it is behind each change.
func wantLinear(t *testing.T, program string, texts ...string) {
	t.Helper()
	for _, passes := range []string{"l", "ll", "llllllll"} {
		wantSteps(t, program, passes, texts...)
	}
}

const (
	twice = "p(A,B):-p(A,C),p(C,B)."
	once  = "p(A,B):-e(A,C),p(C,B)."
	step  = "p(A,B):-e(A,B)."
)

func TestLinear(t *testing.T) {
	wantOptimise(t, "p(A,B):-e(A,B).p(A,B):-p(A,C),p(C,B).?p.", "l", 1, way, 1)
	wantLinear(t, step+twice+"?p.", step+twice+"?p.", way)
	wantLinear(t, twice+step, twice+step, once+step)
	wantLinear(t, "p(X,Y):-p(X,Z),p(Z,Y).?e.p(Y,X):-e(Y,X).", twice+"?e."+step, once+"?e."+step)
	wantLinear(t, "p(Z,A):-p(Z,M),p(M,A).q(1).p(B,Z):-e(B,Z).?p.", twice+"q(1)."+step+"?p.", once+"q(1)."+step+"?p.")
	// The names may be any, and e may be ruled, even by p, or stand elsewhere.
	for _, e := range []string{"a", "q", "pp", "pppppp", "zzzzzz"} {
		program := twice + "p(A,B):-" + e + "(A,B)."
		wantLinear(t, program, program, "p(A,B):-"+e+"(A,C),p(C,B).p(A,B):-"+e+"(A,B).")
		program = strings.ReplaceAll(twice, "p(", e+"(") + e + "(A,B):-p(A,B)."
		wantLinear(t, program, program, e+"(A,B):-p(A,C),"+e+"(C,B)."+e+"(A,B):-p(A,B).")
	}
	wantLinear(t, twice+step+"e(A,B):-f(B,A),!g(A).", twice+step+"e(A,B):-f(B,A),!g(A).", once+step+"e(A,B):-f(B,A),!g(A).")
	wantLinear(t, twice+step+"e(A,B):-f(A,B).e(A,B):-p(B,A).?p.", twice+step+"e(A,B):-f(A,B).e(A,B):-p(B,A).?p.", once+step+"e(A,B):-f(A,B).e(A,B):-p(B,A).?p.")
	wantLinear(t, twice+step+"q(A):-p(A,A),!e(A,A).?q.?p.?p.", twice+step+"q(A):-p(A,A),!e(A,A).?q.?p.?p.", once+step+"q(A):-p(A,A),!e(A,A).?q.?p.?p.")
}

// TestLinearFirst has several rules to change: the first item comes first.
func TestLinearFirst(t *testing.T) {
	q := strings.NewReplacer("p(", "q(", "e(", "p(")
	wantLinear(t, twice+step+q.Replace(twice+step), twice+step+q.Replace(twice+step), once+step+q.Replace(twice+step), once+step+q.Replace(once+step))
	wantLinear(t, q.Replace(step)+step+q.Replace(twice)+"?p."+twice, q.Replace(step)+step+q.Replace(twice)+"?p."+twice,
		q.Replace(step)+step+q.Replace(once)+"?p."+twice, q.Replace(step)+step+q.Replace(once)+"?p."+once)
}

// TestLinearOthers has rules that are not just those of the pass.
func TestLinearOthers(t *testing.T) {
	for _, rule := range []string{
		// Another order of the variables or of the literals.
		"p(A,B):-p(C,B),p(A,C).", "p(A,B):-p(A,C),p(B,C).", "p(A,B):-p(C,A),p(C,B).", "p(A,B):-p(C,A),p(B,C).", "p(A,B):-p(B,C),p(C,A).",
		// Variables that are not three different ones, and numbers.
		"p(A,A):-p(A,B),p(B,A).", "p(A,B):-p(A,A),p(A,B).", "p(A,B):-p(A,B),p(B,B).", "p(A,B):-p(A,C),p(D,B).", "p(A,A):-p(A,A),p(A,A).", "p(A,B):-p(A,B),p(A,B).",
		"p(A,1):-p(A,B),p(B,1).", "p(1,A):-p(1,B),p(B,A).", "p(A,B):-p(A,1),p(1,B).",
		// Another predicate, a literal more or fewer, and one that is negated.
		"p(A,B):-p(A,C),q(C,B).", "p(A,B):-q(A,C),p(C,B).", "p(A,B):-q(A,C),q(C,B).", "q(A,B):-p(A,C),p(C,B).", "p(A,B):-pp(A,C),pp(C,B).",
		"p(A,B):-p(A,C),p(C,B),q(A,B).", "p(A,B):-p(A,C),p(C,D),p(D,B).", "p(A,B):-p(A,C),p(C,B),p(C,B).", "p(A,B):-p(A,B).", "p(A,B):-p(A,C),p(C,B),!q(A,B).", "p(1,2).",
		once, "?p.",
	} {
		wantLinear(t, rule+step+"?p.", rule+step+"?p.")
		wantLinear(t, "?p."+step+rule, "?p."+step+rule)
	}
	three := "p(A,B,C):-p(A,C,B),p(C,B,A).p(A,B,C):-e(A,B,C)."
	wantLinear(t, three, three)
}

// TestLinearBeside has other rules of p beside the one, of another number or another kind.
func TestLinearBeside(t *testing.T) {
	for _, rules := range []string{
		// None, or more than one.
		"", "?e.", "q(A,B):-e(A,B).", "p(A,B):-e(A,B).p(A,B):-f(A,B).", step + step, step + "p(1,2).", "p(1,2)." + step, step + twice, step + once, twice, once,
		// Other variables, and numbers.
		"p(A,B):-e(B,A).", "p(A,A):-e(A,A).", "p(A,B):-e(A,B,C).", "p(A,B):-e(A,B,B).", "p(1,A):-e(1,A).", "p(A,1):-e(A,1).", "p(1,2):-e(1,2).", "p(1,2).", "p(A,A):-e(A).",
		// A literal more, or one that is negated.
		"p(A,B):-e(A,B),f(A).", "p(A,B):-f(A),e(A,B).", "p(A,B):-e(A,B),e(A,B).", "p(A,B):-e(A,C),e(C,B).", "p(1,2):-!e(1,2).", "p(A,B):-e(A,B),!f(A,B).", "p(A,B):-!f(A,B),e(A,B).",
		// e the same as p.
		"p(A,B):-p(A,B).", "p(A,B):-p(B,A).",
	} {
		wantLinear(t, twice+rules+"?p.", twice+rules+"?p.")
		wantLinear(t, "?p."+rules+twice, "?p."+rules+twice)
	}
	// Rules of other predicates do not count.
	wantLinear(t, twice+"pp(A,B):-e(A,B)."+step+"e(A,B):-q(A,B).?p.", twice+"pp(A,B):-e(A,B)."+step+"e(A,B):-q(A,B).?p.", once+"pp(A,B):-e(A,B)."+step+"e(A,B):-q(A,B).?p.")
}

// TestLinearText has a change that makes the text longer, by up to five bytes, than it may be.
func TestLinearText(t *testing.T) {
	long := func(text string) string { return strings.ReplaceAll(text, "e(", "eeeeee(") }
	fill := padding(t, 600-len(long(once+step)))
	wantLinear(t, twice+long(step)+fill, twice+long(step)+fill, long(once+step)+fill)
	fill = padding(t, 601-len(long(once+step)))
	wantLinear(t, twice+long(step)+fill, twice+long(step)+fill)
	fill = padding(t, 600-len(twice+long(step)))
	wantLinear(t, twice+long(step)+fill, twice+long(step)+fill)
	// The next change may be made; where it makes the text short enough, the first one is behind it.
	qs := strings.NewReplacer("p(", "qq(", "e(", "f(")
	fill = padding(t, 600-len(twice+long(step)+qs.Replace(twice+step)))
	wantLinear(t, twice+long(step)+qs.Replace(twice+step)+fill, twice+long(step)+qs.Replace(twice+step)+fill, twice+long(step)+qs.Replace(once+step)+fill)
	qs = strings.NewReplacer("p(", "qqqqqq(", "e(", "f(")
	fill = padding(t, 600-len(twice+long(step)+qs.Replace(twice+step)))
	wantLinear(t, twice+long(step)+qs.Replace(twice+step)+fill, twice+long(step)+qs.Replace(twice+step)+fill,
		twice+long(step)+qs.Replace(once+step)+fill, long(once+step)+qs.Replace(once+step)+fill)
}

// linear lists what the program is with a rule as the pass l has it: that is one program, or none.
func (p plainProgram) linear(at int) []plainProgram {
	name := p[at].atoms[0].predicate
	steps := []string{}
	for i, it := range p {
		if i != at && it.output == "" && it.atoms[0].predicate == name {
			steps = append(steps, wantedPrint(it.String()))
		}
	}
	if wantedPrint(p[at].String()) != strings.ReplaceAll(twice, "p(", name+"(") || len(steps) != 1 {
		return nil
	}
	e, ok := strings.CutPrefix(steps[0], name+"(A,B):-")
	e, ok2 := strings.CutSuffix(e, "(A,B).")
	if !ok || !ok2 || e == name || strings.ContainsAny(e, "!(") {
		return nil
	}
	first := madeAtom{predicate: e, terms: p[at].atoms[1].terms}
	return []plainProgram{p.with(at, madeItem{atoms: []madeAtom{p[at].atoms[0], first, p[at].atoms[2]}})}
}

// makeLinear adds to a program the rules of the pass l for one or both of two predicates, or rules that are much like them.
func makeLinear(r *rand.Rand, items plainProgram) plainProgram {
	for _, p := range []string{"s", "q"}[r.Intn(2):] {
		kept := plainProgram{}
		for _, it := range items {
			if it.output != "" || it.atoms[0].predicate != p || r.Intn(8) == 0 {
				kept = append(kept, it)
			}
		}
		e := []string{"f", "f", "q", "s"}[r.Intn(4)]
		rules := plainProgram{
			{atoms: []madeAtom{{predicate: p, terms: []string{"X", "Y"}}, {predicate: p, terms: []string{"X", "Z"}}, {predicate: p, terms: []string{"Z", "Y"}}}},
			{atoms: []madeAtom{{predicate: p, terms: []string{"B", "A"}}, {predicate: e, terms: []string{"B", "A"}}}},
		}
		if r.Intn(4) == 0 {
			i := r.Intn(2)
			rules[i] = safely(putInto(rules[i], []string{"X", "Y", "Z", "A"}[r.Intn(4)], []string{"X", "Y", "B", "2"}[r.Intn(4)]))
		}
		at, first := r.Intn(len(kept)+1), r.Intn(2)
		items = append(kept[:at:at], append(plainProgram{rules[first]}, kept[at:]...)...)
		items = append(items, rules[1-first])
	}
	return items
}
