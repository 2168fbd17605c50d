package rulebook

const (
	fresh   = 1000            // the first number of more than maxDigits digits: it stands in no text
	numbers = fresh + letters // those of the texts, and one for each variable of a rule
)

// A part is a literal that is not negated, with the tuples that it may still become.
type part struct {
	atom   atom
	tuples []tuple
}

// A query is what is left of a rule while numbers are put for its variables: what it asks for, and what must not be. The
// rule is safe, so each variable of the head and of what must not be stands in a part.
type query struct {
	head  atom
	parts []part
	nots  []atom
}

// ask is the query of a rule. For its literal newest the tuples of the model count from the place from on alone.
func (m *model) ask(rule item, newest int, from int) query {
	q := query{head: rule.head}
	for i, l := range rule.body {
		if l.negated {
			q.nots = append(q.nots, l.atom)
			continue
		}
		p := part{atom: l.atom}
		for k, t := range m.tuples[l.atom.predicate] {
			if (i != newest || k >= from) && l.atom.fits(t) {
				p.tuples = append(p.tuples, t)
			}
		}
		q.parts = append(q.parts, p)
	}
	return q
}

// fits tells whether an atom can become a tuple of its predicate.
func (a atom) fits(t tuple) bool {
	for i, s := range a.terms {
		if !s.variable && t[i] != s.value {
			return false
		}
		if s.variable && t[i] != t[a.place(s.value)] {
			return false
		}
	}
	return true
}

// settled tells whether all terms of an atom are numbers.
func (a atom) settled() bool {
	for _, t := range a.terms {
		if t.variable {
			return false
		}
	}
	return true
}

// put is the atom with a number in place of a variable.
func (a atom) put(variable int, number int) atom {
	if !a.has(variable) {
		return a
	}
	changed := atom{predicate: a.predicate}
	for _, t := range a.terms {
		if t.variable && t.value == variable {
			t = term{value: number}
		}
		changed.terms = append(changed.terms, t)
	}
	return changed
}

// put is the query with a number in place of a variable.
func (q query) put(variable int, number int) query {
	changed := query{head: q.head.put(variable, number)}
	for _, p := range q.parts {
		changed.parts = append(changed.parts, p.put(variable, number))
	}
	for _, a := range q.nots {
		changed.nots = append(changed.nots, a.put(variable, number))
	}
	return changed
}

func (p part) put(variable int, number int) part {
	at := p.atom.place(variable)
	if at == none {
		return p
	}
	changed := part{atom: p.atom.put(variable, number)}
	for _, t := range p.tuples {
		if t[at] == number {
			changed.tuples = append(changed.tuples, t)
		}
	}
	return changed
}

// atoms lists what stands in a query, the head first.
func (q query) atoms() []atom {
	atoms := []atom{q.head}
	for _, p := range q.parts {
		atoms = append(atoms, p.atom)
	}
	for _, a := range q.nots {
		atoms = append(atoms, a)
	}
	return atoms
}

// partsWith counts the parts that have a variable.
func (q query) partsWith(variable int) int {
	count := 0
	for _, p := range q.parts {
		if p.atom.has(variable) {
			count++
		}
	}
	return count
}

// linked tells whether a variable stands in more than one atom of a query.
func (q query) linked(variable int) bool {
	count := 0
	for _, a := range q.atoms() {
		if a.has(variable) {
			count++
		}
	}
	return count > 1
}

// values lists the numbers that may be put for a variable, as the first part that has it tells them.
func (q query) values(variable int) []int {
	values := []int{}
	var seen [numbers]bool
	for _, p := range q.parts {
		at := p.atom.place(variable)
		if at == none {
			continue
		}
		for _, t := range p.tuples {
			if !seen[t[at]] {
				seen[t[at]] = true
				values = append(values, t[at])
			}
		}
		return values
	}
	return values
}
