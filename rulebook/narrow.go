package rulebook

// narrowed leaves out tuples that no way to put numbers for the variables can use: a number for a variable must stand in its
// place in a tuple of each part that has the variable.
func (q query) narrowed() query {
	// A round that leaves out nothing is the last: so there are no more than there are tuples.
	before := q.size() + 1
	for q.size() < before {
		before = q.size()
		for _, variable := range variablesOf(q.atoms()) {
			if q.partsWith(variable) > 1 {
				q = q.narrowedBy(variable)
			}
		}
	}
	return q
}

// size counts the tuples of all parts.
func (q query) size() int {
	size := 0
	for _, p := range q.parts {
		size += len(p.tuples)
	}
	return size
}

func (q query) narrowedBy(variable int) query {
	// In found is the number of parts that have the number, counted as long as none is missing.
	var found [numbers]int
	asked := 0
	for _, p := range q.parts {
		at := p.atom.place(variable)
		if at == none {
			continue
		}
		for _, t := range p.tuples {
			if found[t[at]] == asked {
				found[t[at]]++
			}
		}
		asked++
	}
	narrowed := query{head: q.head, nots: q.nots}
	for _, p := range q.parts {
		at := p.atom.place(variable)
		if at == none {
			narrowed.parts = append(narrowed.parts, p)
			continue
		}
		kept := part{atom: p.atom}
		for _, t := range p.tuples {
			if found[t[at]] == asked {
				kept.tuples = append(kept.tuples, t)
			}
		}
		narrowed.parts = append(narrowed.parts, kept)
	}
	return narrowed
}

// trimmed leaves out of a narrowed query the parts that hold whatever numbers the others bring.
func (q query) trimmed() query {
	before := len(q.parts) + 1
	for len(q.parts) < before {
		before = len(q.parts)
		q = q.trimmedOnce()
	}
	return q
}

func (q query) trimmedOnce() query {
	trimmed := query{head: q.head, nots: q.nots}
	done := false
	for _, p := range q.parts {
		if !done && q.idle(p.atom) {
			done = true
			continue
		}
		trimmed.parts = append(trimmed.parts, p)
	}
	return trimmed
}

// idle tells whether a part hangs on the rest of a narrowed query by no variable, or by one that another part has too: then
// for each number that the rest puts for that one, the part has a tuple.
func (q query) idle(a atom) bool {
	links := 0
	for _, variable := range variablesOf([]atom{a}) {
		if !q.linked(variable) {
			continue
		}
		links++
		if links > 1 || q.partsWith(variable) == 1 {
			return false
		}
	}
	return true
}

// split tells apart what hangs on some variables, at once or by way of others, and the rest.
func (q query) split(variables []int) (query, query) {
	reached := q.reached(variables)
	near := query{head: q.head}
	far := query{}
	for _, p := range q.parts {
		if p.atom.hasAny(reached) {
			near.parts = append(near.parts, p)
		} else {
			far.parts = append(far.parts, p)
		}
	}
	for _, a := range q.nots {
		if a.hasAny(reached) {
			near.nots = append(near.nots, a)
		} else {
			far.nots = append(far.nots, a)
		}
	}
	return near, far
}

// reached lists the variables that some variables hang together with, themselves among them.
func (q query) reached(variables []int) []int {
	reached := []int{}
	for _, v := range variables {
		reached = append(reached, v)
	}
	// A round that brings no variable is the last: so there are no more than there are variables.
	before := none
	for len(reached) > before {
		before = len(reached)
		for _, a := range q.atoms() {
			if !a.hasAny(reached) {
				continue
			}
			for _, t := range a.terms {
				if t.variable && placeOf(t.value, reached) == none {
					reached = append(reached, t.value)
				}
			}
		}
	}
	return reached
}

func (a atom) hasAny(variables []int) bool {
	for _, v := range variables {
		if a.has(v) {
			return true
		}
	}
	return false
}

func (a atom) hasAll(variables []int) bool {
	for _, v := range variables {
		if !a.has(v) {
			return false
		}
	}
	return true
}
