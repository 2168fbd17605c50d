package rulebook

const maxPasses = 8

// arePasses tells whether a text names passes, none or more.
func arePasses(text string) bool {
	if len(text) > maxPasses {
		return false
	}
	for i := 0; i < len(text); i++ {
		if !isPass(text[i]) {
			return false
		}
	}
	return true
}

func isPass(c byte) bool {
	switch c {
	case 's', 'a', 'r', 'u', 'l':
		return true
	}
	return false
}

// optimised is the program behind passes, and how many changes were made: at most budget.
func (b book) optimised(passes string, budget int) (book, int) {
	made := 0
	for i := 0; i < len(passes); i++ {
		// A pass comes to its end at every budget. s, a and r leave out something and add nothing, and l has one rule fewer
		// to change each time. u puts for a literal such as its predicate uses. That does not use itself, and behind no change
		// does a predicate use more than ahead of it: so none leads back to the literal, and at last nothing is to be unfolded.
		for made < budget {
			next, ok := b.changed(passes[i])
			if !ok {
				break
			}
			b = next
			made++
		}
	}
	return b, made
}

// changed is the program behind the first change of a pass. It tells false where there is none.
func (b book) changed(pass byte) (book, bool) {
	switch pass {
	case 's':
		return b.withoutUnwanted()
	case 'a':
		return b.withoutSpare()
	case 'r':
		return b.withoutImplied()
	case 'u':
		return b.withUnfolded()
	case 'l':
		return b.withLinear()
	}
	return book{}, false
}

// behind is the program that has these items in place of its own. It tells false where that change is not allowed. The items
// are made of what has been read: so the form of their text is right, if it keeps to the limits.
func (b book) behind(items []item) (book, bool) {
	changed := book{names: b.names, items: items}
	if !changed.inLimits() || changed.lacksRules(b) {
		return book{}, false
	}
	e, _ := changed.fault()
	return changed, e == OK
}

// lacksRules tells whether a predicate that was ruled is named, but no longer ruled.
func (b book) lacksRules(before book) bool {
	for predicate := range b.names {
		if before.ruled(predicate) && !b.ruled(predicate) && b.named(predicate) {
			return true
		}
	}
	return false
}

// named tells whether a predicate stands in a rule or in an output.
func (b book) named(predicate int) bool {
	for _, it := range b.items {
		if it.head.predicate == predicate {
			return true
		}
		for _, l := range it.body {
			if l.atom.predicate == predicate {
				return true
			}
		}
	}
	return false
}
