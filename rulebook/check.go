package rulebook

// none is told in place of the number of an item, where no item is meant.
const none = -1

// load reads a program. With an error it tells the place or the item that Check tells with it.
func load(text string) (book, Errno, int) {
	if len(text) > maxText {
		return book{}, ErrLong, 0
	}
	r := reader{text: text}
	items, ok := r.readItems()
	if !ok {
		return book{}, ErrForm, r.at
	}
	b := book{names: r.names, items: items}
	e, at := b.fault()
	if e != OK {
		return book{}, e, at
	}
	return b, OK, 0
}

// fault tells the first error that a text can have once its form is right, and the first item that has it.
func (b book) fault() (Errno, int) {
	at := b.firstOtherTerms()
	if at != none {
		return ErrTerms, at
	}
	at = b.firstUnsafe()
	if at != none {
		return ErrUnsafe, at
	}
	at = b.firstNot()
	if at != none {
		return ErrNot, at
	}
	return OK, 0
}

// firstOtherTerms finds the first item in which a predicate has another number of terms than ahead of it.
func (b book) firstOtherTerms() int {
	// 0 means that the predicate has not come yet: no atom is without terms.
	counts := make([]int, len(b.names))
	for i, it := range b.items {
		for _, a := range it.atoms() {
			if counts[a.predicate] == 0 {
				counts[a.predicate] = len(a.terms)
			}
			if counts[a.predicate] != len(a.terms) {
				return i
			}
		}
	}
	return none
}

func (b book) firstUnsafe() int {
	for i, it := range b.items {
		if !it.safe() {
			return i
		}
	}
	return none
}

func (it item) safe() bool {
	for _, a := range it.atoms() {
		for _, t := range a.terms {
			if t.variable && !it.binds(t.value) {
				return false
			}
		}
	}
	return true
}

// binds tells whether a variable stands in a literal of the body that is not negated.
func (it item) binds(variable int) bool {
	for _, l := range it.body {
		if !l.negated && l.atom.has(variable) {
			return true
		}
	}
	return false
}

func (a atom) has(variable int) bool { return a.place(variable) != none }

// place tells which term of an atom is the first to be a variable.
func (a atom) place(variable int) int {
	for i, t := range a.terms {
		if t.variable && t.value == variable {
			return i
		}
	}
	return none
}

// firstNot finds the first rule with a negated literal whose predicate is that of the head, or uses it.
func (b book) firstNot() int {
	uses := b.uses()
	for i, it := range b.items {
		head := it.head.predicate
		for _, l := range it.body {
			q := l.atom.predicate
			if l.negated && (q == head || uses[q][head]) {
				return i
			}
		}
	}
	return none
}
