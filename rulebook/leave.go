package rulebook

// withoutUnwanted leaves out all rules whose head's predicate is not wanted (pass s). It tells false where there is none.
func (b book) withoutUnwanted() (book, bool) {
	wanted := b.wanted()
	kept := []item{}
	for _, it := range b.items {
		// An output is kept with this, as its predicate is wanted.
		if wanted[it.head.predicate] {
			kept = append(kept, it)
		}
	}
	if len(kept) == len(b.items) {
		return book{}, false
	}
	return b.behind(kept)
}

// wanted tells of each predicate whether it has an output, or one that has an output uses it.
func (b book) wanted() []bool {
	uses := b.uses()
	wanted := make([]bool, len(b.names))
	for _, it := range b.items {
		if !it.output {
			continue
		}
		wanted[it.head.predicate] = true
		for predicate, used := range uses[it.head.predicate] {
			if used {
				wanted[predicate] = true
			}
		}
	}
	return wanted
}

// withoutSpare leaves out the first literal that is spare (pass a). It tells false where there is none.
func (b book) withoutSpare() (book, bool) {
	for i, it := range b.items {
		for at := range it.body {
			_, ok := it.spare(at)
			if !ok {
				continue
			}
			left := it.without(at)
			items := b.with([]item{left}, i)
			next, ok := b.behind(items)
			if ok {
				return next, true
			}
		}
	}
	return book{}, false
}

// withoutImplied leaves out the first rule that is implied (pass r). It tells false where there is none.
func (b book) withoutImplied() (book, bool) {
	for i, it := range b.items {
		if it.output {
			continue
		}
		// Whether the change is allowed is found out sooner than whether the rule is implied.
		items := b.with(nil, i)
		next, ok := b.behind(items)
		if ok && b.implied(i) {
			return next, true
		}
	}
	return book{}, false
}

// with is the items of the program with others in place of one of them.
func (b book) with(others []item, at int) []item {
	items := []item{}
	for i, it := range b.items {
		if i != at {
			items = append(items, it)
			continue
		}
		for _, other := range others {
			items = append(items, other)
		}
	}
	return items
}
