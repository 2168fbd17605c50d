package rulebook_test

import (
	"testing"

	"rulebook/rulebook"
)

func TestPrint(t *testing.T) {
	for _, c := range []struct{ program, text string }{
		{"", ""},
		{"?p.", "?p."},
		{"?abcdef.?abcdef.", "?abcdef.?abcdef."},
		{"p(0,10,999).", "p(0,10,999)."},
		{way, way},
		{"p(Z):-e(Z).", "p(A):-e(A)."},
		{"p(B,A):-e(A,B).", "p(A,B):-e(B,A)."},
		{"p(1):-e(C,2,B),!f(B),g(A,C).", "p(1):-e(A,2,B),!f(B),g(C,A)."},
		{"p(1):-!f(C),e(B,C).", "p(1):-!f(A),e(B,A)."},
		{"p(X,X):-e(X,Y,X),e(Y,Y,Y).", "p(A,A):-e(A,B,A),e(B,B,B)."},
		{"p(X):-e(X).?p.q(Y,X):-e(X),e(Y).q(X,1):-e(X).", "p(A):-e(A).?p.q(A,B):-e(B),e(A).q(A,1):-e(A)."},
		{"p(Z,Y,X):-e(W,V,U),e(T,S,R),e(Q,P,O),e(N,M,L),e(X,Y,Z).",
			"p(A,B,C):-e(D,E,F),e(G,H,I),e(J,K,L),e(M,N,O),e(C,B,A)."},
		{ofLength(t, 600), ofLength(t, 600)},
	} {
		wantPrint(t, c.program, c.text, rulebook.OK)
	}
}

func TestPrintErrors(t *testing.T) {
	wantPrint(t, ofLength(t, 601), "", rulebook.ErrLong)
	wantPrint(t, "p(X):-e(X).?", "", rulebook.ErrForm)
	wantPrint(t, "p(X):-e(X).\xff", "", rulebook.ErrForm)
	wantPrint(t, "p(X):-e(X).e(1,2).", "", rulebook.ErrTerms)
	wantPrint(t, "p(X):-e(X).q(X).", "", rulebook.ErrUnsafe)
	wantPrint(t, "p(X):-e(X),!p(X).", "", rulebook.ErrNot)
}
