package rulebook

// A putting is what is put for the variables of two rules, by their values: those of the one rule are below letters, those of
// the other, once it stands apart, are from there on.
type putting [2 * letters]term

// apart is the rule with other variables, which no rule has that has been read.
func (it item) apart() item {
	var p putting
	for i := 0; i < letters; i++ {
		p[i] = term{variable: true, value: letters + i}
	}
	return p.into(it)
}

// meeting finds what must be put so that two atoms of one predicate become the same, and puts nothing else. It tells false where
// nothing makes them the same.
func meeting(one atom, other atom) (putting, bool) {
	var p putting
	for i := range p {
		p[i] = term{variable: true, value: i}
	}
	for i, t := range one.terms {
		left := p.of(t)
		right := p.of(other.terms[i])
		if left == right {
			continue
		}
		if right.variable {
			p = p.with(right, left)
		} else if left.variable {
			p = p.with(left, right)
		} else {
			return putting{}, false
		}
	}
	return p, true
}

// with is the putting with a term in place of a variable, wherever that is put.
func (p putting) with(variable term, t term) putting {
	for i := range p {
		if p[i] == variable {
			p[i] = t
		}
	}
	return p
}

// of is what a term becomes.
func (p putting) of(t term) term {
	if t.variable {
		return p[t.value]
	}
	return t
}

func (p putting) intoAtom(a atom) atom {
	became := atom{predicate: a.predicate}
	for _, t := range a.terms {
		became.terms = append(became.terms, p.of(t))
	}
	return became
}

func (p putting) into(it item) item {
	became := item{head: p.intoAtom(it.head)}
	for _, l := range it.body {
		l.atom = p.intoAtom(l.atom)
		became.body = append(became.body, l)
	}
	return became
}
