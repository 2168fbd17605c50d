package rulebook

// implied tells whether a rule is implied by the other rules of its program.
func (b book) implied(at int) bool {
	predicates := len(b.names)
	rule := b.items[at].affirmed(predicates)
	m := newModel(2*predicates, rule.frozenBody(), maxTuples)
	m.budget -= total(m.counts())
	others := []item{}
	for i, it := range b.items {
		if i != at && !it.output {
			others = append(others, it.affirmed(predicates))
		}
	}
	m.followRules(others)
	return !m.over() && m.has(rule.head.frozen())
}

// affirmed is the rule with each negated literal as one that is not, of the predicate "not" its own: that has its place as
// far behind the predicate's as there are predicates, so that no rule has it in its head.
func (it item) affirmed(predicates int) item {
	affirmed := item{head: it.head}
	for _, l := range it.body {
		if l.negated {
			l.negated = false
			l.atom.predicate += predicates
		}
		affirmed.body = append(affirmed.body, l)
	}
	return affirmed
}

// frozenBody is what the literals of a rule's body have become.
func (it item) frozenBody() []atom {
	body := []atom{}
	for _, l := range it.body {
		body = append(body, l.atom.frozen())
	}
	return body
}

// frozen is the atom with a number of its own for each variable, which stands in no program.
func (a atom) frozen() atom {
	frozen := atom{predicate: a.predicate}
	for _, t := range a.terms {
		if t.variable {
			t = term{value: fresh + t.value}
		}
		frozen.terms = append(frozen.terms, t)
	}
	return frozen
}
