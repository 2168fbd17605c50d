// Package rulebook: programs of rules, what follows from them, and how they are made smaller: see DOC.md.
package rulebook

// Errno is what a call answers: OK or the reason for a refusal.
type Errno int

const (
	OK        Errno = 0
	ErrLong   Errno = 1  // a string above its bound
	ErrForm   Errno = 2  // no program
	ErrTerms  Errno = 3  // a predicate with different numbers of terms
	ErrUnsafe Errno = 4  // a rule that is not safe
	ErrNot    Errno = 5  // a predicate that hangs on its own not being so
	ErrArg    Errno = 6  // a number that may not be
	ErrFacts  Errno = 7  // no facts
	ErrRuled  Errno = 8  // a fact of a predicate that rules derive
	ErrMany   Errno = 9  // more tuples than may be
	ErrNeeded Errno = 10 // a literal that is not spare
	ErrPasses Errno = 11 // no passes
)

// Check tells whether a text is a right program (P3).
func Check(program string) (Errno, int) {
	_, e, at := load(program)
	return e, at
}

// Print tells a program with its variables named in order (P4).
func Print(program string) (string, Errno) {
	b, e, _ := load(program)
	if e != OK {
		return "", e
	}
	return b.text(), OK
}

// Stratum tells the stratum of an item's predicate (P5).
func Stratum(program string, item int) (int, Errno) {
	b, e, _ := load(program)
	if e != OK {
		return 0, e
	}
	if item < 0 || item >= len(b.items) {
		return 0, ErrArg
	}
	strata := b.strata()
	return strata[b.items[item].head.predicate], OK
}

// Run tells what follows from a program and facts (P6).
func Run(program string, facts string, budget int) (string, int, Errno) {
	if len(program) > maxText || len(facts) > maxFacts {
		return "", 0, ErrLong
	}
	b, e, _ := load(program)
	if e != OK {
		return "", 0, e
	}
	if budget < 0 || budget > maxTuples {
		return "", 0, ErrArg
	}
	given, predicates, e := b.loadFacts(facts)
	if e != OK {
		return "", 0, e
	}
	m := newModel(predicates, given, budget)
	m.follow(b)
	if m.over() {
		return "", 0, ErrMany
	}
	return m.text(b), m.derived, OK
}

// Spare tells why a literal may be left out (P7).
func Spare(program string, item int, literal int) (string, Errno) {
	b, e, _ := load(program)
	if e != OK {
		return "", e
	}
	if !b.hasRule(item) || literal < 0 || literal >= len(b.items[item].body) {
		return "", ErrArg
	}
	rule := b.items[item].inOrder()
	put, ok := rule.spare(literal)
	if !ok {
		return "", ErrNeeded
	}
	return put.text(len(rule.variables())), OK
}

// Implied tells whether a rule may be left out (P8).
func Implied(program string, item int) (bool, Errno) {
	b, e, _ := load(program)
	if e != OK {
		return false, e
	}
	if !b.hasRule(item) {
		return false, ErrArg
	}
	return b.implied(item), OK
}

// Optimise makes passes over a program (P9 to P12).
func Optimise(program string, passes string, budget int) (string, int, Errno) {
	b, e, _ := load(program)
	if e != OK {
		return "", 0, e
	}
	if !arePasses(passes) {
		return "", 0, ErrPasses
	}
	if budget < 0 {
		return "", 0, ErrArg
	}
	smaller, made := b.optimised(passes, budget)
	return smaller.text(), made, OK
}
