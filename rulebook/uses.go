package rulebook

// uses tells for each two predicates p and q, at [p][q], whether p uses q.
func (b book) uses() [][]bool {
	uses := b.usesAtOnce()
	// The round of by adds the ways that lead through by, so that behind it all ways are known that lead through by and
	// the predicates ahead of it, and through no others.
	for by := range uses {
		for p := range uses {
			if !uses[p][by] {
				continue
			}
			for q := range uses {
				if uses[by][q] {
					uses[p][q] = true
				}
			}
		}
	}
	return uses
}

// usesAtOnce is uses in a single step: p is in the head of a rule that has q in its body.
func (b book) usesAtOnce() [][]bool {
	uses := [][]bool{}
	for range b.names {
		row := make([]bool, len(b.names))
		uses = append(uses, row)
	}
	for _, it := range b.items {
		for _, l := range it.body {
			uses[it.head.predicate][l.atom.predicate] = true
		}
	}
	return uses
}

// strata tells the stratum of each predicate of a right program.
func (b book) strata() []int {
	strata := make([]int, len(b.names))
	// A stratum is the greatest number of negated literals on a chain of rules. No circle of rules has a negated literal,
	// so a chain in which no head comes twice will do: it is no longer than there are items, and each round goes a step.
	for round := 0; round < len(b.items); round++ {
		for _, it := range b.items {
			least := it.leastStratum(strata)
			if strata[it.head.predicate] < least {
				strata[it.head.predicate] = least
			}
		}
	}
	return strata
}

// leastStratum tells the least stratum that the body of a rule leaves its head, if those of the body are these.
func (it item) leastStratum(strata []int) int {
	least := 0
	for _, l := range it.body {
		asked := strata[l.atom.predicate]
		if l.negated {
			asked++
		}
		if asked > least {
			least = asked
		}
	}
	return least
}
