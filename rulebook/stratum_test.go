package rulebook_test

import (
	"testing"

	"rulebook/rulebook"
)

// wantStrata asks for the stratum of every item, and of the numbers around them.
func wantStrata(t *testing.T, program string, strata ...int) {
	t.Helper()
	for i, n := range strata {
		wantStratum(t, program, i, n, rulebook.OK)
	}
	wantStratum(t, program, -1, 0, rulebook.ErrArg)
	wantStratum(t, program, len(strata), 0, rulebook.ErrArg)
}

func TestStratum(t *testing.T) {
	wantStrata(t, "")
	wantStrata(t, "?z.", 0)
	wantStrata(t, "p(1).", 0)
	wantStrata(t, way, 0, 0, 0)
	wantStrata(t, "p(1):-!e(1).?e.?p.", 1, 0, 1)
	wantStrata(t, "?p.p(1).p(1):-!e(1).", 1, 1, 1)
	wantStrata(t, "p(1):-!e(1).q(1):-p(1).r(1):-q(1).s(1):-!r(1).", 1, 1, 1, 2)
	wantStrata(t, "s(1):-!r(1).r(1):-q(1).q(1):-p(1).p(1):-!e(1).", 2, 1, 1, 1)
	wantStrata(t, "p(1):-q(1).q(1):-r(1).r(1):-p(1).q(1):-!e(1).?r.", 1, 1, 1, 1, 1)
	wantStrata(t, "p(1):-!q(1),!r(1).q(1).r(1):-!q(1).", 2, 0, 1)
	wantStrata(t, "p(1):-!r(1),!q(1).q(1).r(1):-!q(1).", 2, 0, 1)
	wantStrata(t, "p(1):-q(1).p(1):-!q(1).q(1):-!e(1).", 2, 2, 1)
}

// TestStratumGreatest has a chain of as many rules as there can be, each with a negated literal, in both orders.
func TestStratumGreatest(t *testing.T) {
	up := ""
	down := ""
	upStrata := []int{}
	downStrata := []int{}
	for i := 0; i < 16; i++ {
		rule := string(rune('b'+i)) + "(1):-!" + string(rune('a'+i)) + "(1)."
		up = up + rule
		down = rule + down
		upStrata = append(upStrata, i+1)
		downStrata = append(downStrata, 16-i)
	}
	wantStrata(t, up, upStrata...)
	wantStrata(t, down, downStrata...)
}

func TestStratumErrors(t *testing.T) {
	const least, greatest = -1 << 63, 1<<63 - 1
	for _, item := range []int{least, -1, 3, 4, 16, greatest} {
		wantStratum(t, way, item, 0, rulebook.ErrArg)
	}
	for _, item := range []int{least, -1, 0, 1, greatest} {
		wantStratum(t, "", item, 0, rulebook.ErrArg)
		wantStratum(t, ofLength(t, 601), item, 0, rulebook.ErrLong)
		wantStratum(t, "p(1):-!e(1)", item, 0, rulebook.ErrForm)
		wantStratum(t, "p(1):-!e(1).e(1,2).", item, 0, rulebook.ErrTerms)
		wantStratum(t, "p(1):-!e(1).q(A).", item, 0, rulebook.ErrUnsafe)
		wantStratum(t, "p(1):-!e(1).q(1):-!q(1).", item, 0, rulebook.ErrNot)
	}
}
