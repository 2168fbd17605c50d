package rulebook_test

import (
	"regexp"
	"strings"
	"testing"

	"rulebook/rulebook"
)

// TestCheckLength is P3's ErrLong: the bound, one beyond it, and that it comes ahead of every other error.
func TestCheckLength(t *testing.T) {
	wantCheck(t, ofLength(t, 599), rulebook.OK, 0)
	wantCheck(t, ofLength(t, 600), rulebook.OK, 0)
	wantCheck(t, ofLength(t, 601), rulebook.ErrLong, 0)
	wantCheck(t, strings.Repeat("#", 600), rulebook.ErrForm, 0)
	wantCheck(t, strings.Repeat("#", 601), rulebook.ErrLong, 0)
	wantCheck(t, "p(A).p(1,2)."+strings.Repeat("?q.", 200), rulebook.ErrLong, 0)
}

// TestCheckBounds goes to the bound of each number of the form, and one beyond.
func TestCheckBounds(t *testing.T) {
	for _, c := range []struct {
		program string
		e       rulebook.Errno
		at      int
	}{
		{"", rulebook.OK, 0},
		{"abcdef(1).", rulebook.OK, 0},
		{"abcdefg(1).", rulebook.ErrForm, 6},
		{"p(1):-abcdef(1).", rulebook.OK, 0},
		{"p(1):-abcdefg(1).", rulebook.ErrForm, 12},
		{"p(1):-!abcdef(1).", rulebook.OK, 0},
		{"p(1):-!abcdefg(1).", rulebook.ErrForm, 13},
		{"?abcdef.", rulebook.OK, 0},
		{"?abcdefg.", rulebook.ErrForm, 7},
		{"az(1).", rulebook.OK, 0},
		{"p(A,Z):-e(A,Z).", rulebook.OK, 0},
		{"p(0,9,10).", rulebook.OK, 0},
		{"p(99,100,999).", rulebook.OK, 0},
		{"p(1000).", rulebook.ErrForm, 5},
		{"p(00).", rulebook.ErrForm, 3},
		{"p(1,07).", rulebook.ErrForm, 5},
		{"p(1,2,3).", rulebook.OK, 0},
		{"p(1,2,3,4).", rulebook.ErrForm, 7},
		{"p(1):-e(1,2,3,4).", rulebook.ErrForm, 13},
		{"p(1):-a(1),b(1),c(1),d(1),e(1).", rulebook.OK, 0},
		{"p(1):-a(1),b(1),c(1),d(1),e(1),f(1).", rulebook.ErrForm, 30},
		{"p(1):-!a(1),!b(1),!c(1),!d(1),!e(1),!f(1).", rulebook.ErrForm, 35},
		{strings.Repeat("p(1).", 16), rulebook.OK, 0},
		{strings.Repeat("p(1).", 16) + "p", rulebook.ErrForm, 80},
		{strings.Repeat("p(1).", 16) + "?p.", rulebook.ErrForm, 80},
		{strings.Repeat("?p.", 16), rulebook.OK, 0},
		{strings.Repeat("?p.", 16) + ".", rulebook.ErrForm, 48},
		{strings.Repeat("?p.", 15) + ".", rulebook.ErrForm, 45},
	} {
		wantCheck(t, c.program, c.e, c.at)
	}
}

// TestCheckEndsTooEarly cuts a program that has all that a program can have: a cut between two items is a program.
func TestCheckEndsTooEarly(t *testing.T) {
	whole := "pp(A,12):-e(A,B,100),!f(B,0).?pp.q(7).r(A):-e(A,A,A),q(A),!f(A,1),pp(A,A).?r."
	for n := 0; n <= len(whole); n++ {
		if n == 0 || whole[n-1] == '.' {
			wantCheck(t, whole[:n], rulebook.OK, 0)
		} else {
			wantCheck(t, whole[:n], rulebook.ErrForm, n)
		}
	}
}

const (
	aTerm     = `([A-Z]|0|[1-9][0-9]{0,2})`
	aName     = `[a-z]{1,6}`
	anAtom    = aName + `\(` + aTerm + `(,` + aTerm + `){0,2}\)`
	aRule     = anAtom + `(:-!?` + anAtom + `(,!?` + anAtom + `){0,4})?\.`
	anOutput  = `\?` + aName + `\.`
	manyItems = `^(` + aRule + `|` + anOutput + `)*$`
)

var items = regexp.MustCompile(manyItems)

// hasForm tells by another way than the program's whether a text is one: each item has just one dot.
func hasForm(text string) bool {
	return strings.Count(text, ".") <= 16 && items.MatchString(text)
}

// canGoOn tells whether a text can be the beginning of a program: one of these ends fits behind each beginning.
func canGoOn(text string) bool {
	for _, end := range []string{"", ".", "p.", "-p(1).", "p(1).", "(1).", "1).", ")."} {
		if hasForm(text + end) {
			return true
		}
	}
	return false
}

// checkForm holds ErrForm and its place against the words of P3: what is ahead of the place can go on, what ends with it
// cannot.
func checkForm(t *testing.T, text string) {
	t.Helper()
	e, at := rulebook.Check(text)
	if (e == rulebook.ErrForm) == hasForm(text) {
		t.Fatalf("Check(%q) = %d, %d, but that it is a program is %v", text, e, at, hasForm(text))
	}
	if e != rulebook.ErrForm {
		return
	}
	if at < 0 || at > len(text) || !canGoOn(text[:at]) || at < len(text) && canGoOn(text[:at+1]) {
		t.Fatalf("Check(%q) = ErrForm, %d: the place is wrong", text, at)
	}
}

// TestCheckPlace puts each byte in place of each byte, and between each two, of some programs, and leaves each out.
func TestCheckPlace(t *testing.T) {
	for _, text := range []string{
		way,
		"abcdef(A,10,999):-f(A),!g(A,0),f(A),f(A),f(1).",
		"?abcdef.p(1).",
		strings.Repeat("?p.", 15) + "q(1).",
	} {
		for i := 0; i <= len(text); i++ {
			for c := 0; c < 256; c++ {
				checkForm(t, text[:i]+string([]byte{byte(c)})+text[i:])
				if i < len(text) {
					checkForm(t, text[:i]+string([]byte{byte(c)})+text[i+1:])
				}
			}
			if i < len(text) {
				checkForm(t, text[:i]+text[i+1:])
			}
		}
	}
}

// TestCheckShortTexts tries every text of up to five bytes of an alphabet that has one of each kind.
func TestCheckShortTexts(t *testing.T) {
	checkFrom(t, "", 5)
}

// checkFrom checks a text, and all that begin with it and have up to more further bytes.
func checkFrom(t *testing.T, text string, more int) {
	checkForm(t, text)
	if more == 0 {
		return
	}
	for _, c := range "pA01(),.:-!? " {
		checkFrom(t, text+string(c), more-1)
	}
}

func TestCheckWrongBytes(t *testing.T) {
	for _, c := range []struct {
		program string
		at      int
	}{
		{"\x00", 0}, {"p\x00(1).", 1}, {"p(\xff).", 2}, {"p(1).\n", 5}, {"\u00e9(1).", 0}, {"p(\u0661).", 2},
		{"p(1) .", 4}, {"p(1, 2).", 4}, {"p(1):- e(1).", 6}, {"p(1):-e(1), f(1).", 11}, {"p(-1).", 2}, {"p(a).", 2},
		{"pA(1).", 1}, {"p1(1).", 1}, {"p(A1).", 3}, {"p(1A).", 3}, {"p(@).", 2}, {"p([).", 2}, {"p(/).", 2}, {"p(:).", 2},
		{"`(1).", 0}, {"{(1).", 0}, {"p(1);", 4}, {"!p(1).", 0}, {"p(1):-!!e(1).", 7}, {"p(1):-.", 6}, {"p(1):-,", 6},
		{"p(1):-e(1);", 10}, {"p.", 1}, {"p().", 2}, {"p(,1).", 2}, {"p(1,).", 4}, {"??p.", 1}, {"?p?q.", 2}, {"?p(A).", 2},
		{"?!p.", 1}, {"?P.", 1}, {"p(1):.", 5}, {"p(1)-e(1).", 4}, {"p(1)..", 5},
	} {
		wantCheck(t, c.program, rulebook.ErrForm, c.at)
	}
}

func TestCheckTerms(t *testing.T) {
	for _, c := range []struct {
		program string
		e       rulebook.Errno
		at      int
	}{
		{"p(A):-p(A,A).", rulebook.ErrTerms, 0},
		{"p(A):-e(A),e(A,A).", rulebook.ErrTerms, 0},
		{"p(A):-e(A),!e(A,A).", rulebook.ErrTerms, 0},
		{"p(A):-e(A).q(A):-e(A,A).", rulebook.ErrTerms, 1},
		{"p(A):-e(A),!f(A).?p.f(1,2,3).", rulebook.ErrTerms, 2},
		{"?p.?q.p(1).?p.p(1,2).p(1).", rulebook.ErrTerms, 4},
		{"a(1).b(1).b(1,2).a(1,2).", rulebook.ErrTerms, 2},
		{"?p.p(1,2).?p.", rulebook.OK, 0},
		{"?p.p(1,2,3).", rulebook.OK, 0},
		{"p(1).pp(1,2).ppp(1,2,3).", rulebook.OK, 0},
	} {
		wantCheck(t, c.program, c.e, c.at)
	}
}

func TestCheckUnsafe(t *testing.T) {
	for _, c := range []struct {
		program string
		e       rulebook.Errno
		at      int
	}{
		{"p(A).", rulebook.ErrUnsafe, 0},
		{"p(1,A).", rulebook.ErrUnsafe, 0},
		{"p(1).", rulebook.OK, 0},
		{"p(A):-!e(A).", rulebook.ErrUnsafe, 0},
		{"p(1):-!e(A).", rulebook.ErrUnsafe, 0},
		{"p(1):-!e(1).", rulebook.OK, 0},
		{"p(A):-!e(A),f(A).", rulebook.OK, 0},
		{"p(A,B):-e(A).", rulebook.ErrUnsafe, 0},
		{"p(1):-e(A),!f(A,B).", rulebook.ErrUnsafe, 0},
		{"p(A):-e(A).q(B):-e(A).", rulebook.ErrUnsafe, 1},
		{"?p.p(A):-e(A).?p.q(A):-!e(A).r(A).", rulebook.ErrUnsafe, 3},
		{"p(A,B,C):-e(A),e(B),e(C),!f(A,B,C).", rulebook.OK, 0},
	} {
		wantCheck(t, c.program, c.e, c.at)
	}
}

func TestCheckNot(t *testing.T) {
	for _, c := range []struct {
		program string
		e       rulebook.Errno
		at      int
	}{
		{"p(1):-!p(1).", rulebook.ErrNot, 0},
		{"p(1):-!p(2).", rulebook.ErrNot, 0},
		{"p(1):-p(1).", rulebook.OK, 0},
		{"p(1):-!q(1).q(1):-p(1).", rulebook.ErrNot, 0},
		{"q(1):-p(1).p(1):-!q(1).", rulebook.ErrNot, 1},
		{"p(1):-!q(1).q(1):-!p(1).", rulebook.ErrNot, 0},
		{"p(1):-!q(1).q(1):-r(1).r(1):-s(1).s(1):-p(1).", rulebook.ErrNot, 0},
		{"s(1):-p(1).r(1):-s(1).q(1):-r(1).p(1):-!q(1).", rulebook.ErrNot, 3},
		{"?p.e(1).p(1):-!e(1),!q(1).q(1):-p(1).", rulebook.ErrNot, 2},
		{"p(1):-!q(1).q(1):-q(1).", rulebook.OK, 0},
		{"p(1):-p(1),!q(1).q(1):-r(1).r(1):-q(1).", rulebook.OK, 0},
		{"p(1):-!q(1).p(1):-r(1).r(1):-q(1).", rulebook.OK, 0},
	} {
		wantCheck(t, c.program, c.e, c.at)
	}
}

// TestCheckFirstError has several errors in each program: the one named first is told, even where it stands last.
func TestCheckFirstError(t *testing.T) {
	wantCheck(t, "p(A):-!p(A,A).#", rulebook.ErrForm, 14)
	wantCheck(t, "p(A).w(1):-!w(1).q(1).q(1,2).", rulebook.ErrTerms, 3)
	wantCheck(t, "w(1):-!w(1).q(1).p(A).", rulebook.ErrUnsafe, 2)
	wantCheck(t, "p(A):-!p(A).", rulebook.ErrUnsafe, 0)
	wantCheck(t, "p(A):-!p(A,A).", rulebook.ErrTerms, 0)
}
