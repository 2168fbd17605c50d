package rulebook

// A reader goes through a text byte by byte. Where one of its methods tells false, at is the place of the first byte that
// cannot stand there, or the text's length: for that, nothing is taken back and nothing is looked at twice.
type reader struct {
	text  string
	at    int
	names []string
}

func isSmall(c byte) bool   { return c >= 'a' && c <= 'z' }
func isCapital(c byte) bool { return c >= 'A' && c <= 'Z' }
func isDigit(c byte) bool   { return c >= '0' && c <= '9' }

// take goes past the byte c, if it stands next.
func (r *reader) take(c byte) bool {
	if r.at >= len(r.text) || r.text[r.at] != c {
		return false
	}
	r.at++
	return true
}

func (r *reader) readItems() ([]item, bool) {
	items := []item{}
	for r.at < len(r.text) {
		if len(items) == maxItems {
			return nil, false
		}
		next, ok := r.readItem()
		if !ok {
			return nil, false
		}
		items = append(items, next)
	}
	return items, true
}

func (r *reader) readItem() (item, bool) {
	if r.take('?') {
		return r.readOutput()
	}
	return r.readRule()
}

// readOutput reads what stands behind the ? of an output.
func (r *reader) readOutput() (item, bool) {
	predicate, ok := r.readPredicate()
	if !ok {
		return item{}, false
	}
	ok = r.take('.')
	return item{output: true, head: atom{predicate: predicate}}, ok
}

func (r *reader) readRule() (item, bool) {
	head, ok := r.readAtom()
	if !ok {
		return item{}, false
	}
	if r.take('.') {
		return item{head: head}, true
	}
	ok = r.takeArrow()
	if !ok {
		return item{}, false
	}
	body, ok := r.readBody()
	if !ok {
		return item{}, false
	}
	ok = r.take('.')
	return item{head: head, body: body}, ok
}

func (r *reader) takeArrow() bool {
	if !r.take(':') {
		return false
	}
	return r.take('-')
}

func (r *reader) readBody() ([]literal, bool) {
	first, ok := r.readLiteral()
	if !ok {
		return nil, false
	}
	body := []literal{first}
	for len(body) < maxBody && r.take(',') {
		next, ok := r.readLiteral()
		if !ok {
			return nil, false
		}
		body = append(body, next)
	}
	return body, true
}

func (r *reader) readLiteral() (literal, bool) {
	negated := r.take('!')
	a, ok := r.readAtom()
	return literal{negated: negated, atom: a}, ok
}

func (r *reader) readAtom() (atom, bool) {
	predicate, ok := r.readPredicate()
	if !ok {
		return atom{}, false
	}
	ok = r.take('(')
	if !ok {
		return atom{}, false
	}
	terms, ok := r.readTerms()
	if !ok {
		return atom{}, false
	}
	ok = r.take(')')
	return atom{predicate: predicate, terms: terms}, ok
}

// readPredicate stops behind the last letter that a predicate may have: a further one is refused by whoever reads on.
func (r *reader) readPredicate() (int, bool) {
	from := r.at
	for r.at < len(r.text) && r.at-from < maxName && isSmall(r.text[r.at]) {
		r.at++
	}
	if r.at == from {
		return 0, false
	}
	name := r.text[from:r.at]
	return r.place(name), true
}

// place tells where a predicate stands among the names, and adds it if it is new.
func (r *reader) place(name string) int {
	for i, known := range r.names {
		if known == name {
			return i
		}
	}
	r.names = append(r.names, name)
	return len(r.names) - 1
}

func (r *reader) readTerms() ([]term, bool) {
	first, ok := r.readTerm()
	if !ok {
		return nil, false
	}
	terms := []term{first}
	for len(terms) < maxTerms && r.take(',') {
		next, ok := r.readTerm()
		if !ok {
			return nil, false
		}
		terms = append(terms, next)
	}
	return terms, true
}

func (r *reader) readTerm() (term, bool) {
	if r.at >= len(r.text) {
		return term{}, false
	}
	c := r.text[r.at]
	if isCapital(c) {
		r.at++
		return term{variable: true, value: int(c - 'A')}, true
	}
	if isDigit(c) {
		value := r.readNumber()
		return term{value: value}, true
	}
	return term{}, false
}

// readNumber reads a number where a digit stands next. Behind a 0 that begins it, or its last digit, it stops: a further
// digit is refused by whoever reads on.
func (r *reader) readNumber() int {
	if r.take('0') {
		return 0
	}
	value := 0
	digits := 0
	for r.at < len(r.text) && digits < maxDigits && isDigit(r.text[r.at]) {
		value = value*10 + int(r.text[r.at]-'0')
		r.at++
		digits++
	}
	return value
}
