package sequence_test

import (
	"math/rand"
	"testing"

	"commonform/api"
	"commonform/sequence"
)

func TestExamples(t *testing.T) {
	l := read(t, "1 2 1 3")
	all := sequence.Options{End: -1, Count: -1}
	back := sequence.Options{End: -1, Count: 1, FromEnd: true}
	for _, c := range []struct {
		o    sequence.Options
		want int
	}{{all, 0}, {back, 2}} {
		if at, e := sequence.Position(num(1), l, c.o); at != c.want || e != api.OK {
			t.Errorf("Position = %d, %v", at, e)
		}
	}
	is := func(what string, l []api.Form, e api.Errno, want string) {
		t.Helper()
		if e != api.OK || !sameAll(l, read(t, want)) {
			t.Errorf("%s = %s, %v; expected %s", what, text(l...), e, want)
		}
	}
	out, e := sequence.Remove(num(1), l, sequence.Options{End: -1, Count: 1})
	is("Remove", out, e, "2 1 3")
	out, e = sequence.Remove(num(1), l, back)
	is("Remove from the end", out, e, "1 2 3")
	out, e = sequence.Distinct(l, all)
	is("Distinct", out, e, "2 1 3")
	out, e = sequence.Distinct(l, back)
	is("Distinct from the end", out, e, "1 2 3")
	if at, e := sequence.Search(read(t, "1 3"), l, all); at != 2 || e != api.OK {
		t.Errorf("Search = %d, %v", at, e)
	}
	out, e = sequence.Sort(read(t, "(2 b) (1 a) (2 a)"), sequence.Numbers, sequence.First)
	is("Sort", out, e, "(1 a) (2 b) (2 a)")
	out, e = sequence.Merge(read(t, "1 3"), read(t, "2 3"), sequence.Numbers, sequence.Whole)
	is("Merge", out, e, "1 2 3 3")
	out, e = sequence.Union(read(t, "1 2"), read(t, "2 3"), sequence.Same, sequence.Whole)
	is("Union", out, e, "1 2 3")
}

// takenOf returns by the definition which elements are taken, or the error.
func takenOf(x api.Form, l []api.Form, o sequence.Options) ([]bool, api.Errno) {
	end := o.End
	switch {
	case len(l) > 2000:
		return nil, api.ErrSize
	case o.Test < 0 || o.Test > 1 || o.Key < 0 || o.Key > 3 || o.Count < -1:
		return nil, api.ErrArg
	case o.Start < 0 || o.Start > len(l) || end < -1 || end >= 0 && (end < o.Start || end > len(l)):
		return nil, api.ErrOrder
	case end == -1:
		end = len(l)
	}
	keys, ok := keysOf(o.Key, l[o.Start:end])
	if !ok {
		return nil, api.ErrType
	}
	is := make([]bool, len(l))
	for i, k := range keys {
		is[o.Start+i] = isAlike(o.Test, k, x) != o.Not
	}
	return is, api.OK
}

// limited returns which ones are left if just the first, or last, n are taken.
func limited(is []bool, o sequence.Options) []bool {
	out := make([]bool, len(is))
	n := o.Count
	for i := range is {
		if o.FromEnd {
			i = len(is) - 1 - i
		}
		if is[i] && n != 0 {
			out[i] = true
			n--
		}
	}
	return out
}

func randomOptions(r *rand.Rand, n int) sequence.Options {
	o := sequence.Options{End: -1, Count: -1, FromEnd: r.Intn(2) == 0, Not: r.Intn(4) == 0, Test: r.Intn(2)}
	if r.Intn(2) == 0 {
		o.Key = r.Intn(4)
	}
	if r.Intn(2) == 0 {
		o.Count = r.Intn(4)
	}
	if r.Intn(2) == 0 {
		o.Start = r.Intn(n + 1)
	}
	if r.Intn(2) == 0 {
		o.End = o.Start + r.Intn(n-min(n, o.Start)+1)
	}
	switch r.Intn(40) {
	case 0:
		o.Test = pick(r, []int{-1, 2, 99})
	case 1:
		o.Key = pick(r, []int{-1, 4, 99})
	case 2:
		o.Count = pick(r, []int{-2, -99})
	case 3:
		o.Start = pick(r, []int{-1, n + 1, 99, -99})
	case 4:
		o.End = pick(r, []int{-2, n + 1, 99, o.Start - 1})
	}
	return o
}

// P12.1 and P12.3, and P12.4 for Remove and Substitute: results against the definitions.
func TestSearching(t *testing.T) {
	r := rand.New(rand.NewSource(12))
	all := everything(t)
	conses := read(t, `(1 2) (1.0 2) (1 "a") (1 "A") (2 1) ("a" 1) ("A" 1) (1 . 2) (1 2 3)`)
	seen := map[api.Errno]int{}
	for range 40000 {
		from := pick(r, [][]api.Form{all, conses, read(t, `1 1.0 2 "a" "A"`)})
		l, x, other := some(r, from, 7), pick(r, from), pick(r, all)
		o := randomOptions(r, len(l))
		if o.Key > 0 && r.Intn(2) == 0 {
			x, _ = keyOf(o.Key, x)
		}
		is, want := takenOf(x, l, o)
		seen[want]++
		first, count := -1, 0
		for i := range is {
			if is[i] {
				count++
				if first < 0 || o.FromEnd {
					first = i
				}
			}
		}
		at, e := sequence.Position(x, l, o)
		n, d := sequence.Count(x, l, o)
		f, g := sequence.Find(x, l, o)
		left, h := sequence.Remove(x, l, o)
		changed, k := sequence.Substitute(other, x, l, o)
		if want != api.OK {
			if at != 0 || n != 0 || !sameForm(f, api.Form{}) || left != nil || changed != nil || e != want || d != want || g != want || h != want || k != want {
				t.Fatalf("%+v of %s: %v, %v, %v, %v, %v; expected %v", o, text(l...), e, d, g, h, k, want)
			}
			continue
		}
		if at != first || n != count || e != api.OK || d != api.OK {
			t.Fatalf("%+v of %s in %s: Position %d, Count %d; expected %d, %d", o, text(x), text(l...), at, n, first, count)
		}
		if first < 0 && (g != api.ErrNone || !sameForm(f, api.Form{})) || first >= 0 && (g != api.OK || !sameForm(f, l[first])) {
			t.Fatalf("%+v of %s in %s: Find %s, %v", o, text(x), text(l...), text(f), g)
		}
		var removed, substituted []api.Form
		for i, gone := range limited(is, o) {
			if !gone {
				removed = append(removed, l[i])
				substituted = append(substituted, l[i])
			} else {
				substituted = append(substituted, other)
			}
		}
		if h != api.OK || k != api.OK || !sameAll(left, removed) || !sameAll(changed, substituted) {
			t.Fatalf("%+v of %s in %s: Remove %s, Substitute %s", o, text(x), text(l...), text(left...), text(changed...))
		}
	}
	for _, e := range []api.Errno{api.OK, api.ErrArg, api.ErrOrder, api.ErrType} {
		if seen[e] < 300 {
			t.Errorf("the result %v was met %d times", e, seen[e])
		}
	}
}

func TestSearchAndMismatch(t *testing.T) {
	r := rand.New(rand.NewSource(13))
	small := read(t, `(1 2) (1.0 2) (2 1) ("a" 1) ("A" 1) 1 1.0 "a"`)
	seen := map[int]int{}
	for range 40000 {
		from := small[:pick(r, []int{3, 5, 8})]
		part, l := some(r, from, 3), some(r, from, 8)
		o := randomOptions(r, len(l))
		_, want := takenOf(api.Form{}, l, o)
		keys, ok := keysOf(max(0, min(o.Key, 3)), part)
		if want == api.OK && !ok {
			want = api.ErrType
		}
		at, e := sequence.Search(part, l, o)
		if e != want || want != api.OK && at != 0 {
			t.Fatalf("%+v: Search = %d, %v; expected %v", o, at, e, want)
		}
		if want == api.OK {
			end, found := o.End, -1
			if end < 0 {
				end = len(l)
			}
			for i := o.Start; i+len(part) <= end; i++ {
				is := true
				for k, x := range keys {
					y, _ := keyOf(o.Key, l[i+k])
					is = is && isAlike(o.Test, x, y)
				}
				if is && (found < 0 || o.FromEnd) {
					found = i
				}
			}
			if at != found {
				t.Fatalf("%+v: Search of %s in %s = %d; expected %d", o, text(part...), text(l...), at, found)
			}
			seen[at]++
		}
		mismatch(t, part, l, o)
	}
	if seen[-1] < 100 || seen[0] < 100 || seen[3] < 100 {
		t.Errorf("the results were %v", seen)
	}
}

func mismatch(t *testing.T, a, b []api.Form, o sequence.Options) {
	t.Helper()
	at, e := sequence.Mismatch(a, b, o)
	if o.Test < 0 || o.Test > 1 || o.Key < 0 || o.Key > 3 || o.Count < -1 {
		if at != 0 || e != api.ErrArg {
			t.Fatalf("%+v: Mismatch = %d, %v", o, at, e)
		}
		return
	}
	x, ok := keysOf(o.Key, a)
	y, fits := keysOf(o.Key, b)
	if !ok || !fits {
		if at != 0 || e != api.ErrType {
			t.Fatalf("%+v: Mismatch = %d, %v", o, at, e)
		}
		return
	}
	want := 0
	for want < len(x) && want < len(y) && isAlike(o.Test, x[want], y[want]) {
		want++
	}
	if want == len(x) && want == len(y) {
		want = -1
	}
	if at != want || e != api.OK {
		t.Fatalf("%+v: Mismatch of %s and %s = %d, %v; expected %d", o, text(a...), text(b...), at, e, want)
	}
}

// The order of errors: sequences, the first one first, options, keys.
func TestSearchErrors(t *testing.T) {
	long := many(2001, num(1))
	l := read(t, "(1) 2 (3)")
	bad := sequence.Options{Start: 9, End: -7, Test: 9}
	first := sequence.Options{End: -1, Count: -1, Key: sequence.First}
	for i, c := range []struct {
		l    []api.Form
		o    sequence.Options
		want api.Errno
	}{
		{long, bad, api.ErrSize}, {l, bad, api.ErrArg}, {l, sequence.Options{Start: 9, Key: 4}, api.ErrArg}, {l, sequence.Options{Start: 9, Count: -2}, api.ErrArg}, {l, sequence.Options{Start: 9, Key: 1}, api.ErrOrder}, {l, first, api.ErrType}, {l, sequence.Options{End: 1, Key: 1}, api.OK}, {l, sequence.Options{Start: 2, End: -1, Key: 1}, api.OK}, {l, sequence.Options{Start: 1, End: 1, Key: 1}, api.OK}, {l, sequence.Options{Start: 3, End: -1, Key: 1}, api.OK}, {l, sequence.Options{Start: 3, End: 2, Key: 1}, api.ErrOrder}, {nil, sequence.Options{Key: 1}, api.OK}, {many(2000, num(1)), sequence.Options{End: 2000}, api.OK},
	} {
		_, e := sequence.Count(num(1), c.l, c.o)
		_, d := sequence.Distinct(c.l, c.o)
		_, f := sequence.Search(nil, c.l, c.o)
		if e != c.want || d != c.want || f != c.want {
			t.Errorf("%d: %v, %v, %v; expected %v", i, e, d, f, c.want)
		}
	}
	for i, c := range []struct {
		a, b             []api.Form
		o                sequence.Options
		search, mismatch api.Errno
	}{
		{long, l, bad, api.ErrSize, api.ErrSize}, {l, long, bad, api.ErrSize, api.ErrSize}, {l, l, bad, api.ErrArg, api.ErrArg}, {l, l, sequence.Options{Start: 4, End: 9, Count: -1}, api.ErrOrder, api.OK}, {l, nil, first, api.ErrType, api.ErrType}, {nil, l, first, api.ErrType, api.ErrType}, {l[:1], l, sequence.Options{End: 1, Key: 1}, api.OK, api.ErrType}, {l, l, sequence.Options{Key: 1, Start: 9}, api.ErrOrder, api.ErrType}, {nil, nil, first, api.OK, api.OK},
	} {
		_, e := sequence.Search(c.a, c.b, c.o)
		_, d := sequence.Mismatch(c.a, c.b, c.o)
		if e != c.search || d != c.mismatch {
			t.Errorf("%d: Search %v, Mismatch %v; expected %v, %v", i, e, d, c.search, c.mismatch)
		}
	}
}

func TestSearchEdges(t *testing.T) {
	l := read(t, "1 2 1 2 1")
	for i, c := range []struct {
		part string
		o    sequence.Options
		want int
	}{
		{"1 2", sequence.Options{End: -1}, 0}, {"1 2", sequence.Options{End: -1, FromEnd: true}, 2}, {"2 1", sequence.Options{Start: 2, End: -1}, 3}, {"1 2", sequence.Options{Start: 3, End: -1}, -1}, {"1 2", sequence.Options{End: 3, FromEnd: true}, 0}, {"", sequence.Options{End: -1}, 0}, {"", sequence.Options{Start: 2, End: 3}, 2}, {"", sequence.Options{Start: 2, End: 3, FromEnd: true}, 3}, {"", sequence.Options{Start: 5, End: -1}, 5}, {"1 2 1 2 1", sequence.Options{End: -1}, 0}, {"1 2 1 2 1 2", sequence.Options{End: -1}, -1}, {"1 2", sequence.Options{End: -1, Not: true, Count: 0}, 0}, {"1.0 2.0", sequence.Options{Start: 1, End: -1, Test: sequence.Loose}, 2},
	} {
		if at, e := sequence.Search(read(t, c.part), l, c.o); at != c.want || e != api.OK {
			t.Errorf("%d: Search of %s = %d, %v; expected %d", i, c.part, at, e, c.want)
		}
	}
	for i, c := range []struct {
		a, b string
		want int
	}{{"1 2", "1 2", -1}, {"", "", -1}, {"1", "", 0}, {"", "1", 0}, {"1 2 3", "1 2", 2}, {"1 2", "1 3", 1}} {
		if at, e := sequence.Mismatch(read(t, c.a), read(t, c.b), sequence.Options{}); at != c.want || e != api.OK {
			t.Errorf("%d: Mismatch = %d, %v; expected %d", i, at, e, c.want)
		}
	}
}
