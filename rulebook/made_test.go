package rulebook_test

import (
	"math/rand"
	"strconv"
	"strings"
	"testing"

	"rulebook/rulebook"
)

// The programs of these tests are made by the test, from a fixed seed, so that it knows their rules without reading them.

type madeAtom struct {
	negated   bool
	predicate string
	terms     []string
}

// A madeItem is a rule, with its head first, or an output.
type madeItem struct {
	output string
	atoms  []madeAtom
}

func (a madeAtom) String() string {
	text := a.predicate + "(" + strings.Join(a.terms, ",") + ")"
	if a.negated {
		return "!" + text
	}
	return text
}

func (it madeItem) String() string {
	if it.output != "" {
		return "?" + it.output + "."
	}
	body := []string{}
	for _, a := range it.atoms[1:] {
		body = append(body, a.String())
	}
	if len(body) == 0 {
		return it.atoms[0].String() + "."
	}
	return it.atoms[0].String() + ":-" + strings.Join(body, ",") + "."
}

func programOf(items []madeItem) string {
	text := ""
	for _, it := range items {
		text += it.String()
	}
	return text
}

func makeAtom(r *rand.Rand, predicates string, careless int) madeAtom {
	p := r.Intn(len(predicates))
	a := madeAtom{predicate: predicates[p : p+1]}
	count := 1 + p%3
	if r.Intn(100) < careless {
		count = 1 + r.Intn(3)
	}
	for len(a.terms) < count {
		if r.Intn(4) == 0 {
			a.terms = append(a.terms, strconv.Itoa(r.Intn(12)))
		} else {
			a.terms = append(a.terms, []string{"X", "Y", "A", "B"}[r.Intn(4)])
		}
	}
	return a
}

// makeItem makes a rule that is safe unless it is made carelessly.
func makeItem(r *rand.Rand, predicates string, careless int) madeItem {
	if r.Intn(6) == 0 {
		p := r.Intn(len(predicates))
		return madeItem{output: predicates[p : p+1]}
	}
	it := madeItem{atoms: []madeAtom{makeAtom(r, predicates, careless)}}
	for n := r.Intn(4); n > 0; n-- {
		a := makeAtom(r, predicates, careless)
		a.negated = r.Intn(3) == 0
		it.atoms = append(it.atoms, a)
	}
	if r.Intn(100) >= careless {
		it = safely(it)
	}
	return it
}

// safely puts a number for each variable that would not be safe.
func safely(it madeItem) madeItem {
	bound := boundIn(it)
	for i := range it.atoms {
		for j, s := range it.atoms[i].terms {
			if isVariable(s) && !bound[s] {
				it.atoms[i].terms[j] = "5"
			}
		}
	}
	return it
}

func isVariable(s string) bool { return s[0] >= 'A' && s[0] <= 'Z' }

func boundIn(it madeItem) map[string]bool {
	bound := map[string]bool{}
	for i, a := range it.atoms {
		for _, s := range a.terms {
			if i > 0 && !a.negated {
				bound[s] = true
			}
		}
	}
	return bound
}

func makeItems(r *rand.Rand, careless int) []madeItem {
	predicates := "abcdefg"[:2+r.Intn(6)]
	items := []madeItem{}
	for n := 1 + r.Intn(7); n > 0; n-- {
		items = append(items, makeItem(r, predicates, careless))
	}
	return items
}

func wantedTerms(items []madeItem) int {
	counts := map[string]int{}
	for i, it := range items {
		for _, a := range it.atoms {
			n, known := counts[a.predicate]
			if known && n != len(a.terms) {
				return i
			}
			counts[a.predicate] = len(a.terms)
		}
	}
	return -1
}

func wantedUnsafe(items []madeItem) int {
	for i, it := range items {
		bound := boundIn(it)
		for _, a := range it.atoms {
			for _, s := range a.terms {
				if isVariable(s) && !bound[s] {
					return i
				}
			}
		}
	}
	return -1
}

// reached tells the predicates that p uses, step by step from p on.
func reached(items []madeItem, p string) map[string]bool {
	seen := map[string]bool{}
	todo := []string{p}
	for len(todo) > 0 {
		from := todo[0]
		todo = todo[1:]
		for _, it := range items {
			if it.output != "" || it.atoms[0].predicate != from {
				continue
			}
			for _, a := range it.atoms[1:] {
				if !seen[a.predicate] {
					seen[a.predicate] = true
					todo = append(todo, a.predicate)
				}
			}
		}
	}
	return seen
}

func wantedNot(items []madeItem) int {
	for i, it := range items {
		if it.output != "" {
			continue
		}
		head := it.atoms[0].predicate
		for _, a := range it.atoms[1:] {
			if a.negated && (a.predicate == head || reached(items, a.predicate)[head]) {
				return i
			}
		}
	}
	return -1
}

func wantedCheck(items []madeItem) (rulebook.Errno, int) {
	if at := wantedTerms(items); at >= 0 {
		return rulebook.ErrTerms, at
	}
	if at := wantedUnsafe(items); at >= 0 {
		return rulebook.ErrUnsafe, at
	}
	if at := wantedNot(items); at >= 0 {
		return rulebook.ErrNot, at
	}
	return rulebook.OK, 0
}

// wantedPrint names the variables in the text as it stands, from one dot to the next.
func wantedPrint(text string) string {
	out := []byte{}
	names := map[byte]byte{}
	for i := 0; i < len(text); i++ {
		c := text[i]
		if c == '.' {
			names = map[byte]byte{}
		}
		if c >= 'A' && c <= 'Z' {
			if names[c] == 0 {
				names[c] = byte('A' + len(names))
			}
			c = names[c]
		}
		out = append(out, c)
	}
	return string(out)
}

// fits tells whether strata are as P5's word asks, but for being the least.
func fits(items []madeItem, strata map[string]int) bool {
	for _, it := range items {
		if it.output != "" {
			continue
		}
		for _, a := range it.atoms[1:] {
			asked := strata[a.predicate]
			if a.negated {
				asked++
			}
			if strata[it.atoms[0].predicate] < asked {
				return false
			}
		}
	}
	return true
}

// leastStrata tries all strata from 0 to 3 for the predicates a to e and keeps the least of each predicate.
func leastStrata(items []madeItem) map[string]int {
	least := map[string]int{}
	for n := 0; n < 1024; n++ {
		strata := map[string]int{"a": n & 3, "b": n >> 2 & 3, "c": n >> 4 & 3, "d": n >> 6 & 3, "e": n >> 8 & 3}
		if !fits(items, strata) {
			continue
		}
		for p, s := range strata {
			if old, known := least[p]; !known || s < old {
				least[p] = s
			}
		}
	}
	return least
}

func TestMadeCheck(t *testing.T) {
	r := rand.New(rand.NewSource(1))
	seen := map[rulebook.Errno]int{}
	for n := 0; n < 30000; n++ {
		items := makeItems(r, []int{0, 0, 2, 10}[n%4])
		e, at := wantedCheck(items)
		wantCheck(t, programOf(items), e, at)
		seen[e]++
	}
	for _, e := range []rulebook.Errno{rulebook.OK, rulebook.ErrTerms, rulebook.ErrUnsafe, rulebook.ErrNot} {
		if seen[e] < 500 {
			t.Errorf("of the programs made only %d have the answer %d", seen[e], e)
		}
	}
}

func TestMadePrint(t *testing.T) {
	r := rand.New(rand.NewSource(2))
	for n := 0; n < 10000; n++ {
		items := makeItems(r, 0)
		program := programOf(items)
		e, _ := wantedCheck(items)
		if e != rulebook.OK {
			wantPrint(t, program, "", e)
			continue
		}
		text := wantedPrint(program)
		wantPrint(t, program, text, rulebook.OK)
		wantPrint(t, text, text, rulebook.OK)
	}
}

func TestMadeStrata(t *testing.T) {
	r := rand.New(rand.NewSource(3))
	high := 0
	for n := 0; n < 3000; n++ {
		items := []madeItem{}
		for len(items) < 1+n%7 {
			items = append(items, makeItem(r, "abcde", 0))
		}
		e, _ := wantedCheck(items)
		least := leastStrata(items)
		for i, it := range items {
			p := it.output
			if p == "" {
				p = it.atoms[0].predicate
			}
			if e != rulebook.OK {
				wantStratum(t, programOf(items), i, 0, e)
				continue
			}
			if len(least) == 0 {
				continue // a stratum above 3 is needed
			}
			wantStratum(t, programOf(items), i, least[p], rulebook.OK)
			if least[p] > 1 {
				high++
			}
		}
	}
	if high < 100 {
		t.Errorf("of the strata asked for only %d are above 1", high)
	}
}
