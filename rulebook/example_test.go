package rulebook_test

import (
	"strings"
	"testing"

	"rulebook/rulebook"
)

const way = "p(A,B):-e(A,B).p(A,B):-e(A,C),p(C,B).?p."

// ofLength is a right program of n bytes, for n from 570 to 608: rules of two atoms that are as long as may be, and outputs
// that fill the rest.
func ofLength(t *testing.T, n int) string {
	t.Helper()
	a := "aaaaaa(100,200,300)"
	s := strings.Repeat(a+":-"+strings.Join([]string{a, a, a, a}, ",")+".", 5) + a + ":-" + a + "." + a + "."
	for n-len(s) > 11 {
		s += "?aaaaaa."
	}
	rest := n - len(s)
	if rest > 8 {
		s += "?" + strings.Repeat("b", rest-8+1) + "."
		rest = n - len(s)
	}
	s += "?" + strings.Repeat("c", rest-2) + "."
	if len(s) != n {
		t.Fatalf("the test's program has %d bytes, not %d", len(s), n)
	}
	return s
}

func wantCheck(t *testing.T, program string, e rulebook.Errno, at int) {
	t.Helper()
	gotE, gotAt := rulebook.Check(program)
	if gotE != e || gotAt != at {
		t.Errorf("Check(%.200q) = %d, %d, want %d, %d", program, gotE, gotAt, e, at)
	}
}

func wantPrint(t *testing.T, program, text string, e rulebook.Errno) {
	t.Helper()
	got, gotE := rulebook.Print(program)
	if got != text || gotE != e {
		t.Errorf("Print(%.200q) = %q, %d, want %q, %d", program, got, gotE, text, e)
	}
}

func wantStratum(t *testing.T, program string, item, n int, e rulebook.Errno) {
	t.Helper()
	got, gotE := rulebook.Stratum(program, item)
	if got != n || gotE != e {
		t.Errorf("Stratum(%.200q, %d) = %d, %d, want %d, %d", program, item, got, gotE, n, e)
	}
}

func TestDocumentExamples(t *testing.T) {
	wantCheck(t, way, rulebook.OK, 0)
	wantCheck(t, "p(A):-e(A)", rulebook.ErrForm, 10)
	wantCheck(t, "p(01).", rulebook.ErrForm, 3)
	wantCheck(t, "p(1).p(1,2).", rulebook.ErrTerms, 1)
	wantCheck(t, "p(A):-e(A,B),!q(C).", rulebook.ErrUnsafe, 0)
	wantCheck(t, "w(A):-m(A,B),!w(B).", rulebook.ErrNot, 0)
	wantPrint(t, "p(X,Y):-e(Y,X,Z).?p.", "p(A,B):-e(B,A,C).?p.", rulebook.OK)
	n := "n(A):-v(A),!p(A).p(A):-e(A,B).?n."
	wantStratum(t, n, 0, 1, rulebook.OK)
	wantStratum(t, n, 1, 0, rulebook.OK)
	wantStratum(t, n, 2, 1, rulebook.OK)
	wantStratum(t, n, 3, 0, rulebook.ErrArg)
}
