package sequence_test

import (
	"math"
	"math/rand"
	"testing"

	"commonform/api"
	"commonform/sequence"
)

// P12.4 for Distinct: against the definition.
func TestDistinct(t *testing.T) {
	r := rand.New(rand.NewSource(14))
	pool := read(t, `1 1.0 2 "a" "A" (1 2) (1.0 3)`)
	conses := read(t, `(1 2) (1.0 2) (2 1) (2 2) (1 "x")`)
	for range 30000 {
		l := some(r, pick(r, [][]api.Form{pool, pool[:3], conses}), 7)
		o := randomOptions(r, len(l))
		got, e := sequence.Distinct(l, o)
		if _, want := takenOf(api.Form{}, l, o); want != e || e != api.OK && got != nil {
			t.Fatalf("%+v: Distinct: %v; expected %v", o, e, want)
		}
		if e != api.OK {
			continue
		}
		end := o.End
		if end < 0 {
			end = len(l)
		}
		var want []api.Form
		for i, x := range l {
			gone := false
			for k := o.Start; k < end; k++ {
				if i < o.Start || i >= end || k == i || (k > i) == o.FromEnd {
					continue
				}
				a, _ := keyOf(o.Key, x)
				b, _ := keyOf(o.Key, l[k])
				gone = gone || isAlike(o.Test, a, b) != o.Not
			}
			if !gone {
				want = append(want, x)
			}
		}
		if !sameAll(got, want) {
			t.Fatalf("%+v: Distinct of %s = %s; expected %s", o, text(l...), text(got...), text(want...))
		}
	}
}

func TestParts(t *testing.T) {
	l, m, x := read(t, "1 2 3 4"), read(t, "7 8 9"), num(0)
	for i, c := range []struct {
		start, end int
		part, fill string
		want       api.Errno
	}{
		{0, -1, "1 2 3 4", "0 0 0 0", api.OK}, {1, 3, "2 3", "1 0 0 4", api.OK}, {4, -1, "", "1 2 3 4", api.OK}, {4, 4, "", "1 2 3 4", api.OK}, {2, 2, "", "1 2 3 4", api.OK}, {0, 4, "1 2 3 4", "0 0 0 0", api.OK}, {3, -1, "4", "1 2 3 0", api.OK},
		{5, -1, "", "", api.ErrOrder}, {-1, -1, "", "", api.ErrOrder}, {0, 5, "", "", api.ErrOrder}, {3, 2, "", "", api.ErrOrder}, {0, -2, "", "", api.ErrOrder}, {math.MinInt, math.MaxInt, "", "", api.ErrOrder}, {math.MaxInt, -1, "", "", api.ErrOrder},
	} {
		part, e := sequence.Subsequence(l, c.start, c.end)
		fill, d := sequence.Fill(l, x, c.start, c.end)
		if e != c.want || d != c.want || !sameAll(part, read(t, c.part)) || !sameAll(fill, read(t, c.fill)) {
			t.Errorf("%d: Subsequence %s, %v, Fill %s, %v", i, text(part...), e, text(fill...), d)
		}
		_, e = sequence.Replace(l, m, c.start, c.end, 0, -1)
		_, d = sequence.Replace(m, l, 0, -1, c.start, c.end)
		if e != c.want || d != c.want {
			t.Errorf("%d: Replace: %v, %v", i, e, d)
		}
	}
	for i, c := range []struct {
		start, end, from, to int
		want                 string
	}{
		{0, -1, 0, -1, "7 8 9 4"}, {1, -1, 1, -1, "1 8 9 4"}, {1, 2, 0, -1, "1 7 3 4"}, {0, -1, 2, 3, "9 2 3 4"}, {2, -1, 0, -1, "1 2 7 8"}, {0, -1, 3, -1, "1 2 3 4"}, {4, -1, 0, -1, "1 2 3 4"}, {1, 1, 0, 3, "1 2 3 4"}, {1, 3, 1, 1, "1 2 3 4"},
	} {
		if got, e := sequence.Replace(l, m, c.start, c.end, c.from, c.to); e != api.OK || !sameAll(got, read(t, c.want)) {
			t.Errorf("%d: Replace = %s, %v", i, text(got...), e)
		}
	}
}

func TestReverse(t *testing.T) {
	r := rand.New(rand.NewSource(15))
	for range 200 {
		l := some(r, everything(t), 9)
		turned, e := sequence.Reverse(l)
		again, d := sequence.Reverse(turned)
		if e != api.OK || d != api.OK || len(turned) != len(l) || !sameAll(again, l) {
			t.Errorf("Reverse of %s = %s", text(l...), text(turned...))
		}
		for i, x := range turned {
			if !sameForm(x, l[len(l)-1-i]) {
				t.Errorf("Reverse of %s = %s", text(l...), text(turned...))
			}
		}
	}
}

func TestLong(t *testing.T) {
	long, fits := many(2001, num(1)), many(2000, num(1))
	for i, call := range []func(l []api.Form) ([]api.Form, api.Errno){
		sequence.Reverse,
		func(l []api.Form) ([]api.Form, api.Errno) { return sequence.Subsequence(l, 0, -1) },
		func(l []api.Form) ([]api.Form, api.Errno) { return sequence.Fill(l, num(2), 0, -1) },
		func(l []api.Form) ([]api.Form, api.Errno) { return sequence.Replace(l, nil, 0, -1, 0, -1) },
		func(l []api.Form) ([]api.Form, api.Errno) {
			m, e := sequence.Replace(nil, l, 0, -1, 0, -1)
			if len(m) > 0 {
				t.Error("Replace makes a sequence longer")
			}
			return l, e
		},
		func(l []api.Form) ([]api.Form, api.Errno) {
			return sequence.Remove(num(2), l, sequence.Options{End: -1})
		},
		func(l []api.Form) ([]api.Form, api.Errno) {
			return sequence.Substitute(num(2), num(3), l, sequence.Options{End: -1})
		},
		func(l []api.Form) ([]api.Form, api.Errno) { return sequence.Sort(l, 0, 0) },
		func(l []api.Form) ([]api.Form, api.Errno) { return sequence.Merge(l, nil, 0, 0) },
		func(l []api.Form) ([]api.Form, api.Errno) { return sequence.Merge(nil, l, 0, 0) },
		func(l []api.Form) ([]api.Form, api.Errno) { return sequence.Union(l, nil, 0, 0) },
		func(l []api.Form) ([]api.Form, api.Errno) { return sequence.Intersection(l, l, 0, 0) },
		func(l []api.Form) ([]api.Form, api.Errno) { return sequence.Difference(l, nil, 0, 0) },
	} {
		if l, e := call(fits); e != api.OK || len(l) != 2000 {
			t.Errorf("%d: of 2000 elements: %d, %v", i, len(l), e)
		}
		if _, e := call(long); e != api.ErrSize {
			t.Errorf("%d: of 2001 elements: %v", i, e)
		}
	}
	// the size comes ahead of all else
	for i, e := range []api.Errno{
		second(sequence.Subsequence(long, -1, 0)), second(sequence.Fill(long, num(1), -1, 0)), second(sequence.Replace(nil, long, 9, 9, 9, 9)), second(sequence.Sort(long, 9, 9)), second(sequence.Merge(nil, long, 9, 9)), second(sequence.Union(nil, long, 9, 9)), second(sequence.Intersection(long, nil, 9, 9)), second(sequence.Difference(nil, long, 9, 9)), second(sequence.Subset(nil, long, 9, 9)),
	} {
		if e != api.ErrSize {
			t.Errorf("%d: %v", i, e)
		}
	}
}

func second[T any](_ T, e api.Errno) api.Errno { return e }

// No argument is changed, and no result shares memory with one, or within.
func TestMemory(t *testing.T) {
	spoil := func(l []api.Form) {
		for i := range l {
			l[i].Kids[0].Text = "99"
			l[i].Text = "99"
		}
	}
	o := sequence.Options{End: -1, Count: -1}
	for i, call := range []func(l []api.Form, x api.Form) []api.Form{
		func(l []api.Form, x api.Form) []api.Form { r, _ := sequence.Remove(x, l, o); return r },
		func(l []api.Form, x api.Form) []api.Form { r, _ := sequence.Substitute(x, l[0], l, o); return r },
		func(l []api.Form, x api.Form) []api.Form { r, _ := sequence.Distinct(l, o); return r },
		func(l []api.Form, x api.Form) []api.Form { r, _ := sequence.Subsequence(l, 1, -1); return r },
		func(l []api.Form, x api.Form) []api.Form { r, _ := sequence.Replace(l, l, 1, -1, 0, -1); return r },
		func(l []api.Form, x api.Form) []api.Form { r, _ := sequence.Fill(l, x, 0, -1); return r },
		func(l []api.Form, x api.Form) []api.Form { r, _ := sequence.Reverse(l); return r },
		func(l []api.Form, x api.Form) []api.Form { r, _ := sequence.Sort(l, 0, sequence.First); return r },
		func(l []api.Form, x api.Form) []api.Form { r, _ := sequence.Merge(l, l, 0, sequence.First); return r },
		func(l []api.Form, x api.Form) []api.Form { r, _ := sequence.Union(l[:1], l, 0, 0); return r },
		func(l []api.Form, x api.Form) []api.Form { r, _ := sequence.Intersection(l, l, 0, 0); return r },
		func(l []api.Form, x api.Form) []api.Form { r, _ := sequence.Difference(l, nil, 0, 0); return r },
		func(l []api.Form, x api.Form) []api.Form { r, _ := sequence.Find(l[1], l, o); return []api.Form{r} },
	} {
		l, x := read(t, "(3 a) (1 b) (2 c) (3 a)"), one(t, "(7 d)")
		out := call(l, x)
		if len(out) == 0 {
			t.Errorf("%d: nothing came out", i)
		}
		before := text(out[1:]...)
		if !sameAll(l, read(t, "(3 a) (1 b) (2 c) (3 a)")) {
			t.Errorf("%d: the argument was changed", i)
		}
		spoil(out[:1])
		if text(out[1:]...) != before || !sameAll(l, read(t, "(3 a) (1 b) (2 c) (3 a)")) || !sameForm(x, one(t, "(7 d)")) {
			t.Errorf("%d: memory is shared", i)
		}
	}
}
