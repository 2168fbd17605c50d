package rulebook_test

import (
	"math/rand"
	"sort"
	"strconv"
	"strings"
	"testing"

	"rulebook/rulebook"
)

// A plainModel follows the document's words as they stand: every number of the texts is put for every variable of a rule,
// again and again, stratum by stratum.
type plainModel struct {
	strata  map[string]int
	numbers []string
	tuples  map[string]bool // as facts without the dot
}

func plainlyFollow(items []madeItem, facts []madeAtom) plainModel {
	m := plainModel{strata: plainStrata(items), tuples: map[string]bool{}}
	seen := map[string]bool{}
	for _, f := range facts {
		m.tuples[f.String()] = true
		m.collect(f, seen)
	}
	for _, it := range items {
		for _, a := range it.atoms {
			m.collect(a, seen)
		}
	}
	for stratum := 0; stratum <= len(items); stratum++ {
		for before := -1; before < len(m.tuples); {
			before = len(m.tuples)
			for _, it := range items {
				if it.output == "" && m.strata[it.atoms[0].predicate] == stratum {
					m.tryAll(it)
				}
			}
		}
	}
	return m
}

func (m *plainModel) collect(a madeAtom, seen map[string]bool) {
	for _, s := range a.terms {
		if !isVariable(s) && !seen[s] {
			seen[s] = true
			m.numbers = append(m.numbers, s)
		}
	}
}

func (m *plainModel) tryAll(it madeItem) {
	for _, a := range it.atoms {
		for _, s := range a.terms {
			if isVariable(s) {
				for _, number := range m.numbers {
					m.tryAll(putInto(it, s, number))
				}
				return
			}
		}
	}
	for _, a := range it.atoms[1:] {
		negated := a.negated
		a.negated = false
		if m.tuples[a.String()] == negated {
			return
		}
	}
	m.tuples[it.atoms[0].String()] = true
}

func putInto(it madeItem, variable, number string) madeItem {
	out := madeItem{}
	for _, a := range it.atoms {
		b := madeAtom{negated: a.negated, predicate: a.predicate}
		for _, s := range a.terms {
			if s == variable {
				s = number
			}
			b.terms = append(b.terms, s)
		}
		out.atoms = append(out.atoms, b)
	}
	return out
}

// plainStrata raises strata from 0 on until all rules have what they ask for.
func plainStrata(items []madeItem) map[string]int {
	strata := map[string]int{}
	for !fits(items, strata) {
		for _, it := range items {
			if it.output != "" {
				continue
			}
			for _, a := range it.atoms[1:] {
				asked := strata[a.predicate]
				if a.negated {
					asked++
				}
				if strata[it.atoms[0].predicate] < asked {
					strata[it.atoms[0].predicate] = asked
				}
			}
		}
	}
	return strata
}

func (m plainModel) text(items []madeItem) string {
	text := ""
	told := map[string]bool{}
	for _, it := range items {
		if it.output == "" || told[it.output] {
			continue
		}
		told[it.output] = true
		rows := []string{}
		for s := range m.tuples {
			if strings.HasPrefix(s, it.output+"(") {
				rows = append(rows, s)
			}
		}
		sort.Slice(rows, func(i, j int) bool { return ranked(rows[i]) < ranked(rows[j]) })
		for _, s := range rows {
			text += s + "."
		}
	}
	return text
}

// ranked writes the numbers of a tuple with four digits each, so that their order is that of the texts.
func ranked(s string) string {
	from := strings.Index(s, "(")
	out := ""
	for _, number := range strings.Split(s[from+1:len(s)-1], ",") {
		out += strings.Repeat("0", 4-len(number)) + number
	}
	return out
}

func (m plainModel) derived(facts []madeAtom) int {
	given := map[string]bool{}
	for _, f := range facts {
		given[f.String()] = true
	}
	return len(m.tuples) - len(given)
}

// runPredicates are those of the programs that are run, each with its number of terms: the first three are given.
var runPredicates = []struct {
	name  string
	terms int
}{{"e", 1}, {"f", 2}, {"g", 3}, {"p", 1}, {"q", 2}, {"r", 3}, {"s", 2}}

func makeRunAtom(r *rand.Rand, from, to int, terms []string) madeAtom {
	p := runPredicates[from+r.Intn(to-from)]
	a := madeAtom{predicate: p.name}
	for len(a.terms) < p.terms {
		a.terms = append(a.terms, terms[r.Intn(len(terms))])
	}
	return a
}

func makeRunItem(r *rand.Rand) madeItem {
	if r.Intn(8) == 0 {
		return madeItem{output: runPredicates[r.Intn(len(runPredicates))].name}
	}
	terms := []string{"A", "B", "C", "D", "E", "A", "B", "C", "D", "E", "12"}
	it := madeItem{atoms: []madeAtom{makeRunAtom(r, 3, 7, terms)}}
	for n := 1 + r.Intn(5); n > 0; n-- {
		a := makeRunAtom(r, r.Intn(2)*2, 3+r.Intn(5), terms)
		a.negated = r.Intn(4) == 0
		it.atoms = append(it.atoms, a)
	}
	return boundly(r, it)
}

// boundly puts a variable that is bound, or a number, for each that would not be safe.
func boundly(r *rand.Rand, it madeItem) madeItem {
	bound := boundIn(it)
	names := []string{"2"}
	for _, s := range []string{"A", "B", "C", "D", "E"} {
		if bound[s] {
			names = append(names, s, s)
		}
	}
	for i := range it.atoms {
		for j, s := range it.atoms[i].terms {
			if isVariable(s) && !bound[s] {
				it.atoms[i].terms[j] = names[r.Intn(len(names))]
			}
		}
	}
	return it
}

func makeRun(r *rand.Rand) ([]madeItem, []madeAtom) {
	items := []madeItem{{output: "p"}, {output: "q"}}
	for n := 2 + r.Intn(5); n > 0; n-- {
		items = append(items, makeRunItem(r))
	}
	// Rules that bring the ruled predicates their first tuples.
	for _, i := range r.Perm(3)[:1+r.Intn(3)] {
		head := madeAtom{predicate: []string{"p", "q", "r"}[i], terms: []string{"A", "B", "C"}[:i+1]}
		items = append(items, madeItem{atoms: []madeAtom{head, {predicate: []string{"e", "f", "g"}[i], terms: head.terms}}})
	}
	facts := []madeAtom{}
	for n := 5 + r.Intn(30); n > 0; n-- {
		facts = append(facts, makeRunAtom(r, 0, 3, []string{"0", "2", "12"}))
	}
	return items, facts
}

func TestMadeRun(t *testing.T) {
	r := rand.New(rand.NewSource(4))
	seen := map[string]int{}
	for n := 0; n < 4000; n++ {
		items, facts := makeRun(r)
		program := programOf(items)
		text := ""
		for _, f := range facts {
			text += f.String() + "."
		}
		e, _ := wantedCheck(items)
		if e != rulebook.OK || len(program) > 600 || len(text) > 400 {
			seen["refused"]++
			continue
		}
		// A given predicate has no rule: those of the heads alone are ruled, so the facts are right.
		m := plainlyFollow(items, facts)
		count := m.derived(facts)
		wantRun(t, program, text, 200, m.text(items), count)
		wantRun(t, program, text, count, m.text(items), count)
		if count > 0 {
			wantRunError(t, program, text, count-1, rulebook.ErrMany)
			wantRunError(t, program, text, r.Intn(count), rulebook.ErrMany)
		}
		seen["tuples "+strconv.Itoa(min(count/4, 3))]++
	}
	for _, kind := range []string{"tuples 0", "tuples 1", "tuples 2", "tuples 3"} {
		if seen[kind] < 100 {
			t.Errorf("the programs made are too much alike: %v", seen)
		}
	}
}
