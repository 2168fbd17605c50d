package rulebook_test

import (
	"fmt"
	"strings"
	"testing"

	"rulebook/rulebook"
)

// answers tells in one text what the calls that are built answer to a program.
func answers(program string) string {
	e, at := rulebook.Check(program)
	text, printE := rulebook.Print(program)
	out := fmt.Sprint(e, at, text, printE)
	for item := -1; item <= 17; item++ {
		n, stratumE := rulebook.Stratum(program, item)
		out += fmt.Sprint(n, stratumE)
		if stratumE != rulebook.OK && n != 0 {
			out += "a result with an error"
		}
	}
	out += leavings(program)
	out += optimisings(program)
	for _, facts := range []string{"", "e(1,2).e(2,3).", "v(2).v(1).", "p(1).", "e"} {
		for _, budget := range []int{-1, 0, 5, 200, 201} {
			told, n, runE := rulebook.Run(program, facts, budget)
			out += fmt.Sprint(told, n, runE)
			if runE != rulebook.OK && (told != "" || n != 0) {
				out += "a result with an error"
			}
		}
	}
	return out
}

// leavings tells what Spare and Implied answer to a program.
func leavings(program string) string {
	out := ""
	for item := -1; item <= 17; item++ {
		yes, impliedE := rulebook.Implied(program, item)
		out += fmt.Sprint(yes, impliedE)
		if impliedE != rulebook.OK && yes {
			out += "a result with an error"
		}
		for literal := -1; literal <= 6; literal++ {
			text, spareE := rulebook.Spare(program, item, literal)
			out += fmt.Sprint(text, spareE)
			if spareE != rulebook.OK && text != "" {
				out += "a result with an error"
			}
		}
	}
	return out
}

// optimisings tells what Optimise answers to a program.
func optimisings(program string) string {
	out := ""
	for _, passes := range []string{"", "s", "a", "r", "u", "l", "sarulsar", "sarulsars", "x"} {
		for _, budget := range []int{-1, 0, 1, 9} {
			text, n, e := rulebook.Optimise(program, passes, budget)
			out += fmt.Sprint(text, n, e)
			if e != rulebook.OK && (text != "" || n != 0) {
				out += "a result with an error"
			}
		}
	}
	return out
}

// TestLongStrings is P1's word of strings of any length: they are refused by their length, so nothing is made on the way.
func TestLongStrings(t *testing.T) {
	for _, n := range []int{601, 5000, 50000000} {
		for _, part := range []string{"?p.", "(", "\xff", "p(A):-p(A).", "0"} {
			program := strings.Repeat(part, n/len(part)+1)
			wantCheck(t, program, rulebook.ErrLong, 0)
			wantPrint(t, program, "", rulebook.ErrLong)
			wantStratum(t, program, 0, 0, rulebook.ErrLong)
			wantRunError(t, program, "", 0, rulebook.ErrLong)
			wantRunError(t, way, program, 0, rulebook.ErrLong)
			wantRunError(t, program, program, -1, rulebook.ErrLong)
			wantSpare(t, program, -1, -1, "", rulebook.ErrLong)
			wantImpliedError(t, program, -1, rulebook.ErrLong)
			wantOptimiseError(t, program, program, -1, rulebook.ErrLong)
			wantOptimiseError(t, "", program, -1, rulebook.ErrPasses)
			wantOptimiseError(t, "p", program, -1, rulebook.ErrForm)
			made := testing.AllocsPerRun(5, func() {
				rulebook.Check(program)
				rulebook.Run(program, "", 0)
				rulebook.Run(way, program, 0)
				rulebook.Spare(program, 0, 0)
				rulebook.Implied(program, 0)
				rulebook.Optimise(program, program, 0)
			})
			if made != 0 {
				t.Errorf("calls with %d bytes make %v things ahead of their answer", len(program), made)
			}
		}
	}
}

// TestSameErrors is P1's rule that with an error each other result is empty, at a program of each error.
func TestSameErrors(t *testing.T) {
	for _, program := range []string{strings.Repeat("?p.", 201), "#", "p(1).p(1,2).", "p(A).", "p(1):-!p(1).", ".", "\x00"} {
		e, _ := rulebook.Check(program)
		if e == rulebook.OK {
			t.Errorf("Check(%.40q) = OK", program)
		}
		wantPrint(t, program, "", e)
		for item := -2; item < 20; item++ {
			wantStratum(t, program, item, 0, e)
			wantRunError(t, program, "", item, e)
			wantSpare(t, program, item, item, "", e)
			wantImpliedError(t, program, item, e)
			wantOptimiseError(t, program, "s", item, e)
		}
	}
}

// TestEveryCut calls on every part of a program, which are texts that begin and end anywhere.
func TestEveryCut(t *testing.T) {
	whole := "n(A,12):-v(A),!p(A,0).p(A,B):-e(A,B),!f(B).?n."
	for from := 0; from <= len(whole); from++ {
		for to := from; to <= len(whole); to++ {
			text := whole[from:to]
			e, at := rulebook.Check(text)
			if at < 0 || at > len(text) || e < rulebook.OK || e > rulebook.ErrNot {
				t.Errorf("Check(%q) = %d, %d", text, e, at)
			}
			if strings.Contains(answers(text), "a result") {
				t.Errorf("a call with %q tells a result with an error", text)
			}
		}
	}
}

// TestNothingIsKept is P2: the answers are the same whatever was asked before, in whatever order.
func TestNothingIsKept(t *testing.T) {
	programs := []string{
		"", way, "?p.", "n(A):-v(A),!p(A).p(A):-e(A,B).?n.", "p(Z):-e(Z,Y).", "e(1).p(A):-e(A).", "e(1,2).p(A):-e(A,A).",
		"p(X):-e(X,Z),e(X,Y),!f(X).p(A):-e(A,1).?p.", "p(A).", "p(1):-!p(1).", "p", "p(1).p(1,2).", strings.Repeat("?p.", 16), strings.Repeat("?p.", 17), ofLength(t, 600),
		ofLength(t, 601), fivefold, twice + step, "q(A):-p(A,2).p(A,1):-h(A).",
	}
	first := []string{}
	for _, p := range programs {
		first = append(first, answers(p))
	}
	for i := range programs {
		for j := range programs {
			answers(programs[j])
			if answers(programs[i]) != first[i] {
				t.Errorf("the answers to %.60q change behind those to %.60q", programs[i], programs[j])
			}
		}
	}
}

// TestErrorNumbers holds the names of the errors against their numbers in the document.
func TestErrorNumbers(t *testing.T) {
	for i, e := range []rulebook.Errno{
		rulebook.OK, rulebook.ErrLong, rulebook.ErrForm, rulebook.ErrTerms, rulebook.ErrUnsafe, rulebook.ErrNot,
		rulebook.ErrArg, rulebook.ErrFacts, rulebook.ErrRuled, rulebook.ErrMany, rulebook.ErrNeeded, rulebook.ErrPasses,
	} {
		if int(e) != i {
			t.Errorf("error %d has the number %d", i, e)
		}
	}
}
