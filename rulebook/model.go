package rulebook

const maxTuples = 200

// A tuple is the numbers of a tuple, with none in the places behind the last: so two of one predicate are the same if all
// places are. The predicate is told by where the tuple is kept.
type tuple [maxTerms]int

// A model grows from the facts to what follows from them.
type model struct {
	tuples  [][]tuple // those of each predicate, in the order in which they came
	derived int       // how many of them the rules have brought
	budget  int       // how many these may be: with one more, nothing further is looked for
}

// tuple is what an atom has become whose terms are all numbers.
func (a atom) tuple() tuple {
	became := tuple{}
	for i := range became {
		became[i] = none
		if i < len(a.terms) {
			became[i] = a.terms[i].value
		}
	}
	return became
}

func newModel(predicates int, facts []atom, budget int) model {
	m := model{tuples: make([][]tuple, predicates), budget: budget}
	for _, fact := range facts {
		if !m.has(fact) {
			m.keep(fact)
		}
	}
	return m
}

func (m *model) has(a atom) bool {
	wanted := a.tuple()
	for _, known := range m.tuples[a.predicate] {
		if known == wanted {
			return true
		}
	}
	return false
}

// keep adds a tuple that the model does not have.
func (m *model) keep(a atom) {
	m.tuples[a.predicate] = append(m.tuples[a.predicate], a.tuple())
}

func (m *model) over() bool { return m.derived > m.budget }

// follow adds all that follows from the rules, as long as the budget lasts.
func (m *model) follow(b book) {
	strata := b.strata()
	// Each stratum above 0 needs a rule of its own, so none is above the number of items.
	for stratum := 0; stratum <= len(b.items); stratum++ {
		rules := []item{}
		for _, it := range b.items {
			if !it.output && strata[it.head.predicate] == stratum {
				rules = append(rules, it)
			}
		}
		m.followRules(rules)
	}
}

// followRules adds what follows from rules that have no predicate of their heads negated in a body.
func (m *model) followRules(rules []item) {
	seen := m.counts()
	for _, it := range rules {
		q := m.ask(it, none, 0)
		m.derive(q)
	}
	// Whatever else follows needs a tuple that was not there when its rule was asked. Each round begins with at least one,
	// so there are no more rounds than tuples.
	now := m.counts()
	for !m.over() && total(now) > total(seen) {
		m.followNew(rules, seen)
		seen = now
		now = m.counts()
	}
}

// followNew adds what follows by means of a tuple that is not among the first of its predicate, as many as are seen.
func (m *model) followNew(rules []item, seen []int) {
	for _, it := range rules {
		for i, l := range it.body {
			from := seen[l.atom.predicate]
			if !l.negated && from < len(m.tuples[l.atom.predicate]) {
				q := m.ask(it, i, from)
				m.derive(q)
			}
		}
	}
}

// counts tells how many tuples each predicate has.
func (m *model) counts() []int {
	counts := []int{}
	for _, tuples := range m.tuples {
		counts = append(counts, len(tuples))
	}
	return counts
}

func total(counts []int) int {
	sum := 0
	for _, n := range counts {
		sum += n
	}
	return sum
}
