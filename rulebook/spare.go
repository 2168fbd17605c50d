package rulebook

// A swap is what is put for the variables of a rule, as far as it is settled.
type swap struct {
	settled [letters]bool
	terms   [letters]term
}

// with is the swap with all that must be put besides, so that one atom becomes another. It tells false where nothing makes it so.
func (s swap) with(from atom, to atom) (swap, bool) {
	if from.predicate != to.predicate {
		return swap{}, false
	}
	for i, t := range from.terms {
		became := to.terms[i]
		if t.variable && !s.settled[t.value] {
			s.settled[t.value] = true
			s.terms[t.value] = became
		}
		if t.variable {
			t = s.terms[t.value]
		}
		if t != became {
			return swap{}, false
		}
	}
	return s, true
}

// spare finds what is put for the variables of a rule so that a literal of it is spare. It tells false where it is not.
func (it item) spare(at int) (swap, bool) {
	left := it.without(at)
	if !left.safe() {
		return swap{}, false
	}
	// What the head's variables are is settled by its staying as it is. As the rule is safe, the literals settle the others.
	kept, _ := swap{}.with(it.head, it.head)
	return kept.onto(it.body, left.body)
}

// without is the rule without a literal of its body.
func (it item) without(at int) item {
	left := item{head: it.head}
	for i, l := range it.body {
		if i != at {
			left.body = append(left.body, l)
		}
	}
	return left
}

// onto finds what must be put besides so that each of some literals becomes one of those left. There are at most maxBody of
// them, so all ways are tried. Each further step has a literal fewer.
func (s swap) onto(literals []literal, left []literal) (swap, bool) {
	if len(literals) == 0 {
		return s, true
	}
	first := literals[0]
	for _, l := range left {
		if l.negated != first.negated {
			continue
		}
		next, ok := s.with(first.atom, l.atom)
		if !ok {
			continue
		}
		found, ok := next.onto(literals[1:], left)
		if ok {
			return found, true
		}
	}
	return swap{}, false
}

// text tells what is put for so many variables, from the first on.
func (s swap) text(variables int) string {
	text := ""
	for i, t := range s.terms {
		if i >= variables {
			return text
		}
		if i > 0 {
			text += ","
		}
		text += t.text()
	}
	return text
}
