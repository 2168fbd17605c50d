package rulebook

import "strconv"

// text tells the tuples of the predicates that have an output.
func (m *model) text(b book) string {
	text := ""
	told := []int{}
	for _, it := range b.items {
		p := it.head.predicate
		if !it.output || placeOf(p, told) != none {
			continue
		}
		told = append(told, p)
		for _, t := range inRank(m.tuples[p]) {
			text += b.names[p] + "(" + t.text() + ")."
		}
	}
	return text
}

// inRank is the tuples with the least first.
func inRank(tuples []tuple) []tuple {
	ranked := []tuple{}
	for _, t := range tuples {
		ranked = append(ranked, t)
		for i := len(ranked) - 1; i > 0 && ranked[i].less(ranked[i-1]); i-- {
			ranked[i] = ranked[i-1]
			ranked[i-1] = t
		}
	}
	return ranked
}

func (t tuple) less(other tuple) bool {
	for i := range t {
		if t[i] != other[i] {
			return t[i] < other[i]
		}
	}
	return false
}

// text tells the numbers of a tuple with a comma between each two.
func (t tuple) text() string {
	text := ""
	for i, number := range t {
		if number == none {
			return text
		}
		if i > 0 {
			text += ","
		}
		text += strconv.Itoa(number)
	}
	return text
}
