package rulebook_test

import (
	"regexp"
	"strings"
	"testing"

	"rulebook/rulebook"
)

func TestFactsRight(t *testing.T) {
	for _, facts := range []string{
		"", "e(1).", "e(0).", "e(10).", "e(999).", "e(1,2).", "e(1,2,3).", "e(0,0,0).", "abcdef(1).", "zzzzzz(100,200,300).",
		"e(1).e(1).", "e(1).f(1,2).", "f(1,2).e(1).f(1,2).g(1,2,3).", "e(1).x(1).y(1).z(1).",
	} {
		wantRun(t, "", facts, 0, "", 0)
	}
}

func TestFactsWrong(t *testing.T) {
	for _, facts := range []string{
		".", " ", "e", "e(", "e()", "e().", "e(1", "e(1)", "e(1,", "e(1,).", "e(,1).", "e.", "(1).", "1.", "e1(1).", "e(1):-f(1).",
		"e(1):-", "e(1),f(1).", "?e.", "!e(1).", "e(A).", "e(1,A).", "e(A,1,2).", "e(1,2,Z).", "e(a).", "e(-1).", "e(+1).", "e(1.5).",
		"e(01).", "e(00).", "e(007).", "e(1000).", "e(1234).", "e(1,2,3,4).", "abcdefg(1).", "E(1).", "é(1).", "e(١).", "e(1)..", "e(1). ",
		" e(1).", "e (1).", "e( 1).", "e(1,2).)", "e(1).\n", "\n", "\x00", "e(1).\x00", "e(1);", "e(1).e", "e(1).e(1)", "e(1).x(A).",
		"e(1).e(1):-e(1).", "e(1)e(1).", "e((1)).", "e[1].", "%", "e(1,,2).", "e(\xff).",
	} {
		wantRunError(t, "", facts, 0, rulebook.ErrFacts)
		wantRunError(t, way+"?z.", "z(1)."+facts, 200, rulebook.ErrFacts)
		wantRunError(t, way, "z(1).z(1,2).p(1,1)."+facts, 0, rulebook.ErrFacts)
	}
}

// TestFactsChanged holds the form of facts against a pattern, at texts that are right but for a byte or two.
func TestFactsChanged(t *testing.T) {
	number := `(0|[1-9][0-9]{0,2})`
	pattern := regexp.MustCompile(`^([a-z]{1,6}\(` + number + `(,` + number + `){0,2}\)\.)*$`)
	whole := "e(10,205,3).abcdef(0,7,99).e(1,2,3)."
	right, wrong := 0, 0
	for at := 0; at <= len(whole); at++ {
		changes := []string{whole[:at], whole[at:]}
		for _, c := range "a0159A(),.:!?- \x00" {
			changes = append(changes, whole[:at]+string(c)+whole[at:])
			if at < len(whole) {
				changes = append(changes, whole[:at]+string(c)+whole[at+1:])
			}
		}
		for _, facts := range changes {
			if !pattern.MatchString(facts) {
				wrong++
				wantRunError(t, "", facts, 0, rulebook.ErrFacts)
				continue
			}
			right++
			_, _, e := rulebook.Run("", facts, 0)
			if e != rulebook.OK && e != rulebook.ErrTerms {
				t.Errorf("Run(\"\", %q, 0) tells %d", facts, e)
			}
		}
	}
	if right < 50 || wrong < 500 {
		t.Errorf("of the texts made %d are facts and %d are none", right, wrong)
	}
}

func TestFactsTerms(t *testing.T) {
	for _, c := range []struct{ program, facts string }{
		{way, "e(1)."}, {way, "e(1,2,3)."}, {way, "e(1,2).e(1)."}, {way, "p(1)."}, {way, "p(1,2).p(1)."}, {way, "p(1,2).e(1)."},
		{"p(1):-!e(1,2).", "e(1)."}, {"p(A):-f(A),!e(A).", "f(1).e(1,2)."}, {"p(A):-f(A),!e(A).?e.", "e(1,2)."}, {"?e.p(1):-e(1).", "e(1,2)."},
		{"", "e(1).e(1,2)."}, {"?e.", "e(1).e(1,2)."}, {"?e.", "e(1,2).e(1,2).f(1).e(1,2,3)."}, {"?e.", "e(1,2).e(1,2).f(1).f(1).f(2,1)."},
		{"", "z(1,2).y(1).z(3,4).y(1,2)."}, {"p(1).", "e(1).p(1).e(1,2)."},
	} {
		wantRunError(t, c.program, c.facts, 200, rulebook.ErrTerms)
		wantRunError(t, c.program, c.facts, 0, rulebook.ErrTerms)
	}
	// An output has no terms, so its predicate may have any number in the facts.
	wantRun(t, "?e.", "e(1).", 0, "e(1).", 0)
	wantRun(t, "?e.", "e(1,2).", 0, "e(1,2).", 0)
	wantRun(t, "?e.", "e(1,2,3).", 0, "e(1,2,3).", 0)
}

func TestFactsRuled(t *testing.T) {
	for _, c := range []struct{ program, facts string }{
		{way, "p(1,2)."}, {way, "e(1,2).p(1,2)."}, {way, "p(1,2).e(1,2)."}, {"p(1).", "p(1)."}, {"p(1).", "p(2)."},
		{"?p.p(1):-!e(1).", "p(1)."}, {"a(1).b(1).c(1).", "z(1).c(9)."}, {"p(A):-p(A).", "p(1)."},
	} {
		wantRunError(t, c.program, c.facts, 200, rulebook.ErrRuled)
		wantRunError(t, c.program, c.facts, 0, rulebook.ErrRuled)
	}
	// An output alone does not make its predicate a ruled one.
	wantRun(t, "?p.", "p(1).", 0, "p(1).", 0)
	wantRun(t, "q(A):-p(A),!r(A).?p.", "p(1).r(1).", 0, "p(1).", 0)
}

// TestFactsCount has as many facts and predicates as facts can have.
func TestFactsCount(t *testing.T) {
	facts := ""
	for a := 'a'; a <= 'z'; a++ {
		facts += string(a) + "(1)." + string(a) + "(2)." + string(a) + "(3)."
	}
	wantRun(t, "?z.?a.", facts, 0, "z(1).z(2).z(3).a(1).a(2).a(3).", 0)
	wantRun(t, "p(A,B):-z(A),a(B).?p.", strings.ReplaceAll(facts, "p(", "q("), 9, "p(1,1).p(1,2).p(1,3).p(2,1).p(2,2).p(2,3).p(3,1).p(3,2).p(3,3).", 9)
}
