package rulebook

import "strconv"

// text tells a program with the variables of each rule named in order.
func (b book) text() string {
	text := ""
	for _, it := range b.items {
		ordered := it.inOrder()
		text += ordered.text(b.names)
	}
	return text
}

// inOrder is the item with other variables: the first that stands in it is 0, the next 1, and so on.
func (it item) inOrder() item {
	order := it.variables()
	ordered := item{output: it.output, head: it.head.renamed(order)}
	for _, l := range it.body {
		a := l.atom.renamed(order)
		ordered.body = append(ordered.body, literal{negated: l.negated, atom: a})
	}
	return ordered
}

// variables lists the variables of an item, each once, in the order in which they first stand there.
func (it item) variables() []int { return variablesOf(it.atoms()) }

func variablesOf(atoms []atom) []int {
	order := []int{}
	for _, a := range atoms {
		for _, t := range a.terms {
			if t.variable && placeOf(t.value, order) == none {
				order = append(order, t.value)
			}
		}
	}
	return order
}

func placeOf(value int, values []int) int {
	for i, v := range values {
		if v == value {
			return i
		}
	}
	return none
}

// renamed is the atom with the places of its variables in order as its variables.
func (a atom) renamed(order []int) atom {
	renamed := atom{predicate: a.predicate}
	for _, t := range a.terms {
		if t.variable {
			t.value = placeOf(t.value, order)
		}
		renamed.terms = append(renamed.terms, t)
	}
	return renamed
}

func (it item) text(names []string) string {
	if it.output {
		return "?" + names[it.head.predicate] + "."
	}
	text := it.head.text(names)
	for i, l := range it.body {
		if i == 0 {
			text += ":-"
		} else {
			text += ","
		}
		if l.negated {
			text += "!"
		}
		text += l.atom.text(names)
	}
	return text + "."
}

func (a atom) text(names []string) string {
	text := names[a.predicate] + "("
	for i, t := range a.terms {
		if i > 0 {
			text += ","
		}
		text += t.text()
	}
	return text + ")"
}

func (t term) text() string {
	if t.variable {
		return string([]byte{byte('A' + t.value)})
	}
	return strconv.Itoa(t.value)
}
