package rulebook

const maxPasses = 8

// arePasses tells whether a text names passes, none or more.
func arePasses(text string) bool {
	if len(text) > maxPasses {
		return false
	}
	for i := 0; i < len(text); i++ {
		if !isPass(text[i]) {
			return false
		}
	}
	return true
}

func isPass(c byte) bool {
	switch c {
	case 's', 'a', 'r', 'u', 'l':
		return true
	}
	return false
}

// optimised is the program behind passes, and how many changes were made: at most budget.
func (b book) optimised(passes string, budget int) (book, int) {
	made := 0
	for i := 0; i < len(passes); i++ {
		// Each change leaves out rules or a literal, and none adds any: so a pass comes to its end at every budget.
		for made < budget {
			next, ok := b.changed(passes[i])
			if !ok {
				break
			}
			b = next
			made++
		}
	}
	return b, made
}

// changed is the program behind the first change of a pass. It tells false where there is none, as with the passes u and l,
// which are not built yet.
func (b book) changed(pass byte) (book, bool) {
	switch pass {
	case 's':
		return b.withoutUnwanted()
	case 'a':
		return b.withoutSpare()
	case 'r':
		return b.withoutImplied()
	}
	return book{}, false
}

// behind is the program that has these items in place of its own, as Print tells it. It tells false where that change is not
// allowed.
func (b book) behind(items []item) (book, bool) {
	changed := book{names: b.names, items: items}
	for predicate := range b.names {
		if b.ruled(predicate) && changed.named(predicate) && !changed.ruled(predicate) {
			return book{}, false
		}
	}
	// Reading the text again holds it against all that Check asks, and leaves no name behind that no item has any more.
	next, e, _ := load(changed.text())
	return next, e == OK
}

// named tells whether a predicate stands in a rule or in an output.
func (b book) named(predicate int) bool {
	for _, it := range b.items {
		if it.head.predicate == predicate {
			return true
		}
		for _, l := range it.body {
			if l.atom.predicate == predicate {
				return true
			}
		}
	}
	return false
}
