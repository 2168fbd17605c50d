package rulebook

// withUnfolded unfolds the first literal that may be (pass u). It tells false where there is none.
func (b book) withUnfolded() (book, bool) {
	uses := b.uses()
	for i, it := range b.items {
		for at, l := range it.body {
			p := l.atom.predicate
			if l.negated || uses[p][p] || !b.ruled(p) {
				continue
			}
			rules := b.unfoldings(it, at)
			items := b.with(rules, i)
			next, ok := b.behind(items)
			if ok {
				return next, true
			}
		}
	}
	return book{}, false
}

// unfoldings lists the rules that stand in place of a rule when a literal of it is unfolded.
func (b book) unfoldings(rule item, at int) []item {
	rules := []item{}
	asked := rule.body[at].atom
	for _, it := range b.items {
		if it.output || it.head.predicate != asked.predicate {
			continue
		}
		other := it.apart()
		p, ok := meeting(asked, other.head)
		if ok {
			joined := rule.withBody(at, other.body)
			became := p.into(joined)
			// With its variables from 0 on, what is kept has none above the letters.
			rules = append(rules, became.inOrder())
		}
	}
	return rules
}

// withBody is the rule with the literals of another body in place of one of its own.
func (it item) withBody(at int, body []literal) item {
	joined := item{head: it.head}
	for i, l := range it.body {
		if i != at {
			joined.body = append(joined.body, l)
			continue
		}
		for _, other := range body {
			joined.body = append(joined.body, other)
		}
	}
	return joined
}
