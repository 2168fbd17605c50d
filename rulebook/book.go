package rulebook

const (
	maxText   = 600
	maxItems  = 16
	maxBody   = 5
	maxTerms  = 3
	maxName   = 6
	maxDigits = 3
	letters   = 26
)

// A term is a variable, with the place of its letter in the alphabet as its value, or a number.
type term struct {
	variable bool
	value    int
}

// An atom has its predicate as a place in the names of its book, so that what is told of predicates can be kept in slices.
type atom struct {
	predicate int
	terms     []term
}

type literal struct {
	negated bool
	atom    atom
}

// An item is a rule or an output. The head of an output is its predicate, without terms.
type item struct {
	output bool
	head   atom
	body   []literal
}

// A book is a program that has been read.
type book struct {
	names []string
	items []item
}

// hasRule tells whether there is an item of this number that is a rule.
func (b book) hasRule(number int) bool {
	return number >= 0 && number < len(b.items) && !b.items[number].output
}

// atoms lists the atoms of a rule from left to right. An output has none.
func (it item) atoms() []atom {
	if it.output {
		return nil
	}
	atoms := make([]atom, len(it.body)+1)
	atoms[0] = it.head
	for i, l := range it.body {
		atoms[i+1] = l.atom
	}
	return atoms
}
