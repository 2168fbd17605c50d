package rulebook

const maxFacts = 400

// readFacts reads a text of facts. Where it tells false, the text is none.
func (r *reader) readFacts() ([]atom, bool) {
	facts := []atom{}
	for r.at < len(r.text) {
		fact, ok := r.readAtom()
		if !ok || !fact.settled() {
			return nil, false
		}
		ok = r.take('.')
		if !ok {
			return nil, false
		}
		facts = append(facts, fact)
	}
	return facts, true
}

// loadFacts reads facts for a program. It tells them, and how many predicates the program and the facts have together: those
// that stand in the facts alone have the places behind those of the program.
func (b book) loadFacts(text string) ([]atom, int, Errno) {
	r := reader{text: text}
	for _, name := range b.names {
		r.names = append(r.names, name)
	}
	facts, ok := r.readFacts()
	if !ok {
		return nil, 0, ErrFacts
	}
	if b.otherTerms(facts, len(r.names)) {
		return nil, 0, ErrTerms
	}
	if b.anyRuled(facts) {
		return nil, 0, ErrRuled
	}
	return facts, len(r.names), OK
}

// otherTerms tells whether a fact has another number of terms than its predicate has in the program or in a fact ahead.
func (b book) otherTerms(facts []atom, predicates int) bool {
	// 0 means that the predicate has not come yet, as with the items of a program.
	counts := make([]int, predicates)
	for _, it := range b.items {
		for _, a := range it.atoms() {
			counts[a.predicate] = len(a.terms)
		}
	}
	for _, fact := range facts {
		if counts[fact.predicate] == 0 {
			counts[fact.predicate] = len(fact.terms)
		}
		if counts[fact.predicate] != len(fact.terms) {
			return true
		}
	}
	return false
}

func (b book) anyRuled(facts []atom) bool {
	for _, fact := range facts {
		if b.ruled(fact.predicate) {
			return true
		}
	}
	return false
}

func (b book) ruled(predicate int) bool {
	for _, it := range b.items {
		if !it.output && it.head.predicate == predicate {
			return true
		}
	}
	return false
}
