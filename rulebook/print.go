package rulebook

import "strconv"

// text tells a program with the variables of each rule named in order.
func (b book) text() string {
	text := ""
	for _, it := range b.items {
		text += b.itemText(it)
	}
	return text
}

// itemText tells an item with its variables named in order.
func (b book) itemText(it item) string {
	ordered := it.inOrder()
	return ordered.text(b.names)
}

// inOrder is the item with other variables: the first that stands in it is 0, the next 1, and so on.
func (it item) inOrder() item {
	order := it.variables()
	ordered := item{output: it.output, head: it.head.renamed(order)}
	for _, l := range it.body {
		a := l.atom.renamed(order)
		ordered.body = append(ordered.body, literal{negated: l.negated, atom: a})
	}
	return ordered
}

// variables lists the variables of an item, each once, in the order in which they first stand there.
func (it item) variables() []int { return variablesOf(it.atoms()) }

func variablesOf(atoms []atom) []int {
	order := []int{}
	for _, a := range atoms {
		for _, t := range a.terms {
			if t.variable && placeOf(t.value, order) == none {
				order = append(order, t.value)
			}
		}
	}
	return order
}

func placeOf(value int, values []int) int {
	for i, v := range values {
		if v == value {
			return i
		}
	}
	return none
}

// renamed is the atom with the places of its variables in order as its variables.
func (a atom) renamed(order []int) atom {
	renamed := atom{predicate: a.predicate}
	for _, t := range a.terms {
		if t.variable {
			t.value = placeOf(t.value, order)
		}
		renamed.terms = append(renamed.terms, t)
	}
	return renamed
}

func (it item) text(names []string) string {
	if it.output {
		return "?" + names[it.head.predicate] + "."
	}
	text := it.head.text(names)
	for i, l := range it.body {
		if i == 0 {
			text += ":-"
		} else {
			text += ","
		}
		if l.negated {
			text += "!"
		}
		text += l.atom.text(names)
	}
	return text + "."
}

func (a atom) text(names []string) string {
	text := names[a.predicate] + "("
	for i, t := range a.terms {
		if i > 0 {
			text += ","
		}
		text += t.text()
	}
	return text + ")"
}

func (t term) text() string {
	if t.variable {
		return string([]byte{byte('A' + t.value)})
	}
	return strconv.Itoa(t.value)
}

// inLimits tells whether a program has no more items, literals and bytes of text than may be. It is asked of each change that
// is tried, so the text is measured, not made.
func (b book) inLimits() bool {
	if len(b.items) > maxItems {
		return false
	}
	length := 0
	for _, it := range b.items {
		if len(it.body) > maxBody {
			return false
		}
		length += it.length(b.names)
	}
	return length <= maxText
}

// length tells how many bytes the text of an item has.
func (it item) length(names []string) int {
	if it.output {
		return len("?.") + len(names[it.head.predicate])
	}
	length := it.head.length(names) + len(".")
	for i, l := range it.body {
		length += len(",") + l.atom.length(names)
		if i == 0 {
			length += len(":-") - len(",")
		}
		if l.negated {
			length += len("!")
		}
	}
	return length
}

func (a atom) length(names []string) int {
	length := len(names[a.predicate]) + len("()")
	for i, t := range a.terms {
		if i > 0 {
			length += len(",")
		}
		length += len(t.text())
	}
	return length
}
