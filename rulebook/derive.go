package rulebook

// derive adds to the model each tuple that a query's head becomes in one of the ways to put numbers for the variables. Each
// further step has a variable fewer.
//
// There may be very many ways that make the same tuple. So numbers are put for the variables of the head alone, and only as
// long as there is some way for the others: then each step leads to a tuple of the model, and of these there are few.
func (m *model) derive(q query) {
	if m.over() || q.head.settled() && m.has(q.head) {
		return
	}
	q, ok := m.reduced(q)
	if !ok || !m.holds(query{parts: q.parts, nots: q.nots}) {
		return
	}
	if q.head.settled() {
		m.keep(q.head)
		m.derived++
		return
	}
	free := variablesOf([]atom{q.head})
	near, _ := q.split(free)
	for _, number := range near.values(free[0]) {
		next := near.put(free[0], number)
		m.derive(next)
	}
}

// holds tells whether there is a way to put numbers for the variables of a query. What does not hang together is tried apart:
// else each way of one would be tried with all those of the other. Each further step has a variable fewer.
func (m *model) holds(q query) bool {
	q, ok := m.reduced(q)
	if !ok {
		return false
	}
	variable := q.choice()
	if variable == none {
		return true
	}
	near, far := q.split([]int{variable})
	if !m.holdsFor(near, variable) {
		return false
	}
	return m.holds(far)
}

// holdsFor tells whether a query holds with one of the numbers for a variable.
func (m *model) holdsFor(q query, variable int) bool {
	for _, number := range q.values(variable) {
		next := q.put(variable, number)
		if m.holds(next) {
			return true
		}
	}
	return false
}

// choice is the variable with the fewest numbers, of those that stand in more than one atom. Where there is none, what is
// asked for holds with any of the tuples.
func (q query) choice() int {
	best := none
	fewest := numbers + 1
	for _, variable := range variablesOf(q.atoms()) {
		if !q.linked(variable) {
			continue
		}
		count := len(q.values(variable))
		if count < fewest {
			best = variable
			fewest = count
		}
	}
	return best
}

// reduced leaves out of a query what need not be asked any more. It tells false where the query cannot hold.
func (m *model) reduced(q query) (query, bool) {
	left := query{head: q.head}
	for _, p := range q.parts {
		left.parts = append(left.parts, p)
	}
	for _, a := range q.nots {
		at := left.partWithAll(a)
		if at != none {
			left.parts[at] = m.barred(left.parts[at], a)
		} else if !a.settled() {
			left.nots = append(left.nots, a)
		} else if m.has(a) {
			return query{}, false
		}
	}
	left = left.narrowed()
	for _, p := range left.parts {
		if len(p.tuples) == 0 {
			return query{}, false
		}
	}
	return left.trimmed(), true
}

// partWithAll finds a part that has all variables of an atom. For an atom without variables each part is one.
func (q query) partWithAll(a atom) int {
	for i, p := range q.parts {
		if p.atom.hasAll(variablesOf([]atom{a})) {
			return i
		}
	}
	return none
}

// barred leaves out the tuples of a part with which an atom that must not be would be.
func (m *model) barred(p part, not atom) part {
	left := part{atom: p.atom}
	for _, t := range p.tuples {
		became := not
		for i, s := range p.atom.terms {
			if s.variable {
				became = became.put(s.value, t[i])
			}
		}
		if !m.has(became) {
			left.tuples = append(left.tuples, t)
		}
	}
	return left
}
