package interval_test

import (
	"math/big"
	"testing"

	"robuststats/api"
	"robuststats/interval"
	"robuststats/rational"
)

// P4.1

func TestValid(t *testing.T) {
	for i, lo := range ends(t) {
		for j, hi := range ends(t) {
			a := api.Interval{Lo: lo, Hi: hi}
			if interval.Valid(a) != (i <= j) {
				t.Errorf("%s: %v", show(a), interval.Valid(a))
			}
		}
	}
	for _, a := range broken(t) {
		if interval.Valid(a) {
			t.Errorf("%v is valid", a)
		}
	}
	if !interval.Valid(api.Interval{}) {
		t.Error("the zero value is not valid")
	}
}

func TestMake(t *testing.T) {
	for _, a := range all(t) {
		got, err := interval.Make(a.Lo, a.Hi)
		lo, hi := toBig(a.Lo), toBig(a.Hi)
		if lo.Cmp(hi) > 0 {
			if err != api.ErrRange || !isZero(got) {
				t.Errorf("%s: %v %v", show(a), got, err)
			}
			continue
		}
		if err != api.OK || !interval.Valid(got) {
			t.Errorf("%s: %v %v", show(a), got, err)
		}
		same(t, "made", got, span{lo, hi})
	}
}

func TestContains(t *testing.T) {
	for _, a := range all(t) {
		for _, v := range append(ends(t), invalid()...) {
			if got := interval.Contains(a, v); got != meaning(a).contains(toBig(v)) {
				t.Errorf("%v in %v: %v", v, a, got)
			}
		}
	}
	for s, want := range map[string]bool{"0": false, "99999999999/100000000000": false, "1": true, "3/2": true, "2": true, "200000000001/100000000000": false, "-1": false} {
		if got := interval.Contains(pair(t, "1", "2"), number(t, s)); got != want {
			t.Errorf("%s in [1, 2]: %v", s, got)
		}
	}
	wrong := pair(t, "2", "1")
	if !interval.Contains(wrong, api.Rat{}) || interval.Contains(wrong, number(t, "1")) || interval.Contains(wrong, number(t, "2")) || interval.Contains(wrong, number(t, "3/2")) {
		t.Error("Lo and Hi are exchanged, or [2, 1] is empty")
	}
}

func TestWithin(t *testing.T) {
	for _, a := range all(t) {
		for _, b := range all(t) {
			want := meaning(b).contains(meaning(a).lo) && meaning(b).contains(meaning(a).hi)
			if got := interval.Within(a, b); got != want {
				t.Errorf("%v within %v: %v", a, b, got)
			}
		}
	}
}

func TestWithinExamples(t *testing.T) {
	for _, x := range []struct {
		a, b, c, d string
		want       bool
	}{
		{"1", "2", "0", "3", true}, {"1", "2", "1", "2", true}, {"1", "2", "1", "3", true}, {"1", "2", "0", "2", true}, {"3/2", "3/2", "1", "2", true}, {"1", "1", "1", "1", true},
		{"0", "2", "1", "3", false}, {"1", "3", "0", "2", false}, {"0", "3", "1", "2", false}, {"0", "1", "2", "3", false}, {"4", "5", "2", "3", false}, {"1", "2", "1", "1", false},
		{"2", "1", "-1", "3", true}, {"2", "1", "1", "3", false}, {"0", "0", "5", "-5", true}, {"0", "1", "5", "-5", false}, {"3", "1", "2", "1", true},
	} {
		a, b := pair(t, x.a, x.b), pair(t, x.c, x.d)
		if got := interval.Within(a, b); got != x.want {
			t.Errorf("%s within %s: %v", show(a), show(b), got)
		}
	}
}

// P4.3

func TestHull(t *testing.T) {
	for _, a := range all(t) {
		for _, b := range all(t) {
			s, r := meaning(a), meaning(b)
			same(t, "hull", interval.Hull(a, b), around([]*big.Rat{s.lo, s.hi, r.lo, r.hi}))
		}
	}
	for _, x := range [][5]string{{"1", "2", "5", "6", "[1, 6]"}, {"5", "6", "1", "2", "[1, 6]"}, {"1", "9", "2", "3", "[1, 9]"}, {"2", "3", "1", "9", "[1, 9]"}, {"1", "3", "2", "4", "[1, 4]"}, {"2", "1", "3", "4", "[0, 4]"}, {"1", "1", "1", "1", "[1, 1]"}} {
		if got := show(interval.Hull(pair(t, x[0], x[1]), pair(t, x[2], x[3]))); got != x[4] {
			t.Errorf("%v: %s", x, got)
		}
	}
}

func TestMeet(t *testing.T) {
	for _, a := range all(t) {
		for _, b := range all(t) {
			s, r := meaning(a), meaning(b)
			want := span{around([]*big.Rat{s.lo, r.lo}).hi, around([]*big.Rat{s.hi, r.hi}).lo}
			got, ok := interval.Meet(a, b)
			if ok != (want.lo.Cmp(want.hi) <= 0) {
				t.Errorf("%v, %v: %v %v", a, b, got, ok)
			}
			if !ok {
				want = span{new(big.Rat), new(big.Rat)}
			}
			same(t, "meet", got, want)
		}
	}
}

func TestMeetExamples(t *testing.T) {
	for _, x := range [][5]string{
		{"1", "2", "0", "3", "[1, 2]"}, {"0", "3", "1", "2", "[1, 2]"}, {"0", "2", "1", "3", "[1, 2]"}, {"1", "3", "0", "2", "[1, 2]"}, {"0", "1", "1", "3", "[1, 1]"}, {"1", "3", "0", "1", "[1, 1]"}, {"5", "5", "5", "5", "[5, 5]"},
		{"0", "1", "2", "3", ""}, {"2", "3", "0", "1", ""}, {"1", "1", "2", "2", ""}, {"2", "1", "-1", "3", "[0, 0]"}, {"2", "1", "1", "3", ""}, {"4", "2", "3", "1", "[0, 0]"},
	} {
		got, ok := interval.Meet(pair(t, x[0], x[1]), pair(t, x[2], x[3]))
		if ok != (x[4] != "") || ok && show(got) != x[4] || !ok && !isZero(got) {
			t.Errorf("%v: %s %v", x, show(got), ok)
		}
	}
}

func TestWidthMid(t *testing.T) {
	for _, a := range all(t) {
		s := meaning(a)
		if got := interval.Width(a); !equal(got, fromBig(new(big.Rat).Sub(s.hi, s.lo))) {
			t.Errorf("width of %v: %v", a, got)
		}
		sum := new(big.Rat).Add(s.lo, s.hi)
		if got := interval.Mid(a); !equal(got, fromBig(sum.Mul(sum, big.NewRat(1, 2)))) {
			t.Errorf("middle of %v: %v", a, got)
		}
	}
	for _, x := range [][4]string{{"-1", "3", "4", "1"}, {"-1", "2", "3", "1/2"}, {"1/3", "1/2", "1/6", "5/12"}, {"7", "7", "0", "7"}, {"-5", "-2", "3", "-7/2"}, {"2", "1", "0", "0"}} {
		a := pair(t, x[0], x[1])
		if width, mid := rational.Format(interval.Width(a)), rational.Format(interval.Mid(a)); width != x[2] || mid != x[3] {
			t.Errorf("%v: %s %s", x, width, mid)
		}
	}
}
