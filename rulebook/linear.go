package rulebook

// withLinear has the first rule that asks for its own predicate twice ask for it once (pass l). It tells false where there is none.
func (b book) withLinear() (book, bool) {
	for i, it := range b.items {
		if !b.asksTwice(it) {
			continue
		}
		step := b.stepBeside(i)
		if step == none {
			continue
		}
		linear := it.inOrder()
		linear.body[0].atom.predicate = step
		items := b.with([]item{linear}, i)
		next, ok := b.behind(items)
		if ok {
			return next, true
		}
	}
	return book{}, false
}

// asksTwice tells whether an item is a rule p(X,Y):-p(X,Z),p(Z,Y).
func (b book) asksTwice(it item) bool {
	p := b.names[it.head.predicate]
	return b.itemText(it) == p+"(A,B):-"+p+"(A,C),"+p+"(C,B)."
}

// stepBeside tells the predicate e where just one other rule has a rule's predicate p in its head, and that is p(X,Y):-e(X,Y).
func (b book) stepBeside(at int) int {
	step := none
	for i, it := range b.items {
		if i == at || it.output || it.head.predicate != b.items[at].head.predicate {
			continue
		}
		if step != none || !b.isStep(it) {
			return none
		}
		step = it.body[0].atom.predicate
	}
	return step
}

// isStep tells whether a rule is p(X,Y):-e(X,Y). with e other than p.
func (b book) isStep(it item) bool {
	if len(it.body) != 1 || it.body[0].atom.predicate == it.head.predicate {
		return false
	}
	p := b.names[it.head.predicate]
	e := b.names[it.body[0].atom.predicate]
	return b.itemText(it) == p+"(A,B):-"+e+"(A,B)."
}
