package sequence_test

import (
	"math"
	"math/rand"
	"slices"
	"strings"
	"testing"
	"time"

	"commonform/api"
	"commonform/sequence"
)

// sortedOf returns the elements in order by inserting them one by one, or false.
func sortedOf(l []api.Form, order, key int) ([]api.Form, bool) {
	keys, ok := keysOf(key, l)
	var out, outKeys []api.Form
	for i, x := range l {
		if !ok {
			return nil, false
		}
		if _, fits := isLess(order, keys[i], keys[i]); !fits {
			return nil, false
		}
		at := len(out)
		for at > 0 {
			if less, _ := isLess(order, keys[i], outKeys[at-1]); !less {
				break
			}
			at--
		}
		out = slices.Insert(out, at, x)
		outKeys = slices.Insert(outKeys, at, keys[i])
	}
	return out, ok
}

var pools = []string{
	"1 1.0 2 2.0d0 3/2 -1 0 0.0 -0.0 100 -20 10", `#\a #\b #\A #\é`, `"a" "ab" "" "B" "b" "A"`, "(1 a) (1.0 b) (2 c) (1/2 d) (-1 e)", `(1 2) (0 2.0) (5 1) (7 1 9) (2 . (3))`, `"a" "bb" #(1) #(1 2) (1) (1 2) "" ()`, `1 #\a "a" (1 2) #C(1 2)`, `(a "x") (b "y") (c "X" 1) (d 1)`, "(a 1) (1 a)",
}

// P12.5: Sort and Merge against inserting one by one.
func TestSortAndMerge(t *testing.T) {
	r := rand.New(rand.NewSource(16))
	good, bad := 0, 0
	for range 30000 {
		pool := read(t, pick(r, pools))
		if r.Intn(20) == 0 {
			pool = everything(t)
		}
		l, order, key := some(r, pool, 9), r.Intn(3), r.Intn(4)
		got, e := sequence.Sort(l, order, key)
		want, ok := sortedOf(l, order, key)
		if !ok {
			bad++
			if e != api.ErrType || got != nil {
				t.Fatalf("Sort(%s, %d, %d) = %s, %v", text(l...), order, key, text(got...), e)
			}
			continue
		}
		good++
		if e != api.OK || !sameAll(got, want) {
			t.Fatalf("Sort(%s, %d, %d) = %s, %v; expected %s", text(l...), order, key, text(got...), e, text(want...))
		}
		again, _ := sequence.Sort(got, order, key)
		half := r.Intn(len(l) + 1)
		a, _ := sequence.Sort(l[:half], order, key)
		b, _ := sequence.Sort(l[half:], order, key)
		both, d := sequence.Merge(a, b, order, key)
		if !sameAll(again, got) || d != api.OK || !sameAll(both, got) {
			t.Fatalf("Sort(%s, %d, %d) = %s, and Merge of its halves %s", text(l...), order, key, text(got...), text(both...))
		}
	}
	if good < 3000 || bad < 3000 {
		t.Errorf("%d sequences had an order, and %d none", good, bad)
	}
}

// Merge takes the next ones as they come, also of sequences that are in no order.
func TestMerge(t *testing.T) {
	for i, c := range []struct{ a, b, want string }{
		{"", "", ""}, {"1", "", "1"}, {"", "1", "1"}, {"5 1", "3 2", "3 2 5 1"}, {"1 9 2", "5 0", "1 5 0 9 2"}, {"(1 a) (1 b)", "(1 c) (0 d)", "(1 a) (1 b) (1 c) (0 d)"}, {"(2 a)", "(1 b) (2 c)", "(1 b) (2 a) (2 c)"},
	} {
		key := sequence.Whole
		if strings.Contains(c.want, "(") {
			key = sequence.First
		}
		if got, e := sequence.Merge(read(t, c.a), read(t, c.b), sequence.Numbers, key); e != api.OK || !sameAll(got, read(t, c.want)) {
			t.Errorf("%d: Merge = %s, %v", i, text(got...), e)
		}
	}
}

func TestOrderErrors(t *testing.T) {
	one, char := read(t, "1"), read(t, `#\a`)
	for i, c := range []struct {
		a, b       []api.Form
		order, key int
		want       api.Errno
	}{
		{one, one, 0, 0, api.OK}, {one, one, 3, 9, api.ErrArg}, {one, one, -1, 0, api.ErrArg}, {one, one, 0, 4, api.ErrArg}, {one, one, 0, -1, api.ErrArg}, {char, one, math.MaxInt, 0, api.ErrArg}, {char, char, 0, 0, api.ErrType}, {one, char, 0, 0, api.ErrType}, {char, nil, 2, 0, api.ErrType}, {nil, char, 0, 0, api.ErrType}, {one, one, 0, 1, api.ErrType}, {nil, nil, 0, 0, api.OK}, {nil, nil, 9, 0, api.ErrArg},
		{many(1000, one[0]), many(1000, one[0]), 0, 0, api.OK}, {many(1000, one[0]), many(1001, one[0]), 0, 0, api.ErrSize}, {many(1000, one[0]), many(1001, char[0]), 0, 0, api.ErrType},
	} {
		if l, e := sequence.Merge(c.a, c.b, c.order, c.key); e != c.want || e != api.OK && l != nil {
			t.Errorf("%d: Merge: %v; expected %v", i, e, c.want)
		}
		if c.b != nil || c.want == api.ErrSize {
			continue
		}
		if l, e := sequence.Sort(c.a, c.order, c.key); e != c.want || e != api.OK && l != nil {
			t.Errorf("%d: Sort: %v; expected %v", i, e, c.want)
		}
	}
}

// Long integers are not read again for each comparison.
func TestLongIntegers(t *testing.T) {
	var l []api.Form
	for i := range 40 {
		l = append(l, node(api.FormInt, strings.Repeat("7", 9999)+string(rune('0'+i*7%10))+strings.Repeat("1", i%3)))
	}
	start := time.Now()
	sorted, e := sequence.Sort(l, sequence.Numbers, sequence.Whole)
	if e != api.OK || time.Since(start) > 20*time.Second {
		t.Errorf("Sort: %v", e)
	}
	for i, x := range sorted[1:] {
		y := sorted[i]
		if len(y.Text) > len(x.Text) || len(y.Text) == len(x.Text) && y.Text > x.Text {
			t.Error("the numbers do not rise")
		}
	}
}

// P12.6: the sets against their definitions.
func TestSets(t *testing.T) {
	r := rand.New(rand.NewSource(17))
	seen := map[api.Errno]int{}
	for range 30000 {
		pool := read(t, pick(r, pools))
		a, b, test, key := some(r, pool, 6), some(r, pool, 6), r.Intn(2), r.Intn(4)
		if r.Intn(30) == 0 {
			test, key = pick(r, []int{-1, 2, 0}), pick(r, []int{-1, 4})
		}
		x, ok := keysOf(max(0, min(3, key)), a)
		y, fits := keysOf(max(0, min(3, key)), b)
		want := api.OK
		switch {
		case test < 0 || test > 1 || key < 0 || key > 3:
			want = api.ErrArg
		case !ok || !fits:
			want = api.ErrType
		}
		seen[want]++
		isIn := func(k api.Form, keys []api.Form) bool {
			return slices.ContainsFunc(keys, func(other api.Form) bool { return isAlike(test, k, other) })
		}
		union, e := sequence.Union(a, b, test, key)
		common, d := sequence.Intersection(a, b, test, key)
		rest, f := sequence.Difference(a, b, test, key)
		is, g := sequence.Subset(a, b, test, key)
		if e != want || d != want || f != want || g != want {
			t.Fatalf("%s and %s: %v, %v, %v, %v; expected %v", text(a...), text(b...), e, d, f, g, want)
		}
		if want != api.OK {
			if union != nil || common != nil || rest != nil || is {
				t.Fatal("a result with an error is no zero value")
			}
			continue
		}
		all := slices.Clone(a)
		var both, left []api.Form
		for i, k := range x {
			if isIn(k, y) {
				both = append(both, a[i])
			} else {
				left = append(left, a[i])
			}
		}
		for i, k := range y {
			if !isIn(k, x) {
				all = append(all, b[i])
			}
		}
		if !sameAll(union, all) || !sameAll(common, both) || !sameAll(rest, left) || is != (len(left) == 0) {
			t.Fatalf("%s and %s by %d, %d: Union %s, Intersection %s, Difference %s, Subset %v", text(a...), text(b...), test, key, text(union...), text(common...), text(rest...), is)
		}
		if part, _ := sequence.Subset(a, union, test, key); !part {
			t.Fatal("a sequence is no Subset of its Union")
		}
	}
	if seen[api.OK] < 3000 || seen[api.ErrType] < 3000 || seen[api.ErrArg] < 300 {
		t.Errorf("the results were %v", seen)
	}
	ones, twos := many(1500, num(1)), many(501, num(2))
	for i, c := range []struct {
		a, b []api.Form
		want api.Errno
	}{{ones, twos, api.ErrSize}, {ones, twos[1:], api.OK}, {ones, many(2000, num(1)), api.OK}} {
		if _, e := sequence.Union(c.a, c.b, 0, 0); e != c.want {
			t.Errorf("%d: Union: %v", i, e)
		}
	}
}
