package table_test

import (
	"math/rand"
	"slices"
	"strconv"
	"strings"
	"testing"

	"commonform/api"
	"commonform/heap"
	"commonform/table"
)

func TestRelations(t *testing.T) {
	h := mustHeap(t, 5000)
	const none = 9 // no test at all
	str := func(s string) heap.Word { return str(t, h, s) }
	cons := func(a, d heap.Word) heap.Word { return cons(t, h, a, d) }
	num := func(kind int, text string) heap.Word { return raw(t, h, kind, text) }
	vec := func(l ...heap.Word) heap.Word { return made(t, h, heap.KindVector, l...) }
	bits := func(s string) heap.Word { return raw(t, h, heap.KindBits, s) }
	complex := func(a, b heap.Word) heap.Word { return made(t, h, heap.KindComplex, a, b) }
	array := func(dims []heap.Word, l ...heap.Word) heap.Word { return array(t, h, dims, l...) }
	one, two := fix(1), fix(2)
	half, oneS, oneD := num(heap.KindRatio, "1/2"), num(heap.KindSingle, "3f800000"), num(heap.KindDouble, "3ff0000000000000")
	box := made(t, h, heap.KindBox, one)
	long := "1" + strings.Repeat("0", 30)
	for i, c := range []struct {
		a, b  heap.Word
		least int // the first test by which both are the same
	}{
		{one, one, table.Eq}, {heap.Nil, heap.Nil, table.Eq}, {box, box, table.Eq}, {heap.Unbound, heap.Unbound, table.Eq}, {one, two, none}, {heap.Nil, heap.Unbound, none}, {box, made(t, h, heap.KindBox, one), none}, {one, char(1), none}, {one, heap.Nil, none},
		{one, num(heap.KindInt, "1"), table.EqlTest}, {num(heap.KindInt, long), num(heap.KindInt, long), table.EqlTest}, {num(heap.KindInt, long), num(heap.KindInt, long+"0"), none}, {half, num(heap.KindRatio, "1/2"), table.EqlTest}, {oneS, num(heap.KindSingle, "3f800000"), table.EqlTest}, {oneD, num(heap.KindDouble, "3ff0000000000000"), table.EqlTest},
		{one, oneS, table.EqualpTest}, {one, oneD, table.EqualpTest}, {oneD, oneS, table.EqualpTest}, {half, num(heap.KindSingle, "3f000000"), table.EqualpTest}, {num(heap.KindSingle, "00000000"), num(heap.KindSingle, "80000000"), table.EqualpTest}, {fix(0), num(heap.KindDouble, "8000000000000000"), table.EqualpTest}, {num(heap.KindRatio, "1/3"), num(heap.KindSingle, "3eaaaaab"), none}, {one, two, none}, {two, num(heap.KindSingle, "40000000"), table.EqualpTest},
		{complex(one, two), complex(num(heap.KindInt, "1"), two), table.EqlTest}, {complex(one, two), complex(two, one), none}, {complex(oneS, oneS), complex(one, one), table.EqualpTest}, {complex(oneS, oneS), complex(oneS, oneS), table.EqlTest}, {complex(oneS, num(heap.KindSingle, "00000000")), one, table.EqualpTest}, {complex(oneD, num(heap.KindDouble, "8000000000000000")), oneS, table.EqualpTest}, {complex(oneD, oneS), complex(oneD, oneS), none}, {complex(one, fix(0)), one, none}, {complex(one, fix(0)), complex(one, fix(0)), none},
		{num(heap.KindInt, "01"), num(heap.KindInt, "01"), none}, {num(heap.KindInt, "01"), one, none}, {num(heap.KindRatio, "2/4"), half, none}, {num(heap.KindSingle, "7f800000"), num(heap.KindSingle, "7f800000"), none}, {num(heap.KindSingle, "3F800000"), oneS, none}, {made(t, h, heap.KindInt, one), made(t, h, heap.KindInt, one), none}, {made(t, h, heap.KindComplex, one, two, two), made(t, h, heap.KindComplex, one, two, two), none}, {raw(t, h, heap.KindComplex, "1 2"), raw(t, h, heap.KindComplex, "1 2"), none}, {complex(one, str("2")), complex(one, str("2")), none}, {complex(complex(one, two), two), complex(complex(one, two), two), none},
		{char('a'), char('A'), table.EqualpTest}, {char('Z'), char('z'), table.EqualpTest}, {char('é'), char('É'), none}, {char('['), char('{'), none}, {char('@'), char('`'), none}, {char('K'), char('\u212a'), none}, {char('1'), one, none},
		{str("ab"), str("ab"), table.EqualTest}, {str(""), str(""), table.EqualTest}, {str("ab"), str("aB"), table.EqualpTest}, {str("ab"), str("abc"), none}, {str("é"), str("É"), none}, {str("\xff"), str("\ufffd"), table.EqualpTest}, {str("\xff"), str("\xff"), table.EqualTest}, {str("\xe2\x82"), str("\ufffd\ufffd"), table.EqualpTest}, {str("\xed\xa0\x80"), str("\ufffd\ufffd\ufffd"), table.EqualpTest}, {str("a"), char('a'), none}, {str("a"), raw(t, h, heap.KindBits, "a"), none}, {str("a"), raw(t, h, heap.KindBox, "a"), none}, {raw(t, h, heap.KindBox, "a"), raw(t, h, heap.KindBox, "a"), none},
		{bits("01"), bits("01"), table.EqualTest}, {bits("01"), bits("0"), none}, {bits("01"), bits("x1"), table.EqualpTest}, {bits("01"), vec(fix(0), one), table.EqualpTest}, {bits("01"), vec(num(heap.KindSingle, "80000000"), oneD), table.EqualpTest}, {bits(""), str(""), table.EqualpTest}, {bits("1"), str("1"), none}, {bits("01"), str("01"), none},
		{cons(one, two), cons(one, two), table.EqualTest}, {cons(one, two), cons(two, one), none}, {cons(one, two), cons(oneS, two), table.EqualpTest}, {cons(str("a"), cons(one, heap.Nil)), cons(str("a"), cons(num(heap.KindInt, "1"), heap.Nil)), table.EqualTest}, {cons(str("a"), heap.Nil), cons(str("A"), heap.Nil), table.EqualpTest}, {cons(box, heap.Nil), cons(box, heap.Nil), table.EqualTest}, {cons(box, heap.Nil), cons(made(t, h, heap.KindBox, one), heap.Nil), none}, {cons(one, heap.Nil), vec(one), none}, {cons(one, heap.Nil), heap.Nil, none}, {cons(vec(), heap.Nil), cons(vec(), heap.Nil), table.EqualpTest},
		{made(t, h, heap.KindCons, one), made(t, h, heap.KindCons, one), none}, {made(t, h, heap.KindCons, one, two, two), made(t, h, heap.KindCons, one, two, two), none}, {raw(t, h, heap.KindCons, "ab"), raw(t, h, heap.KindCons, "ab"), none}, {made(t, h, heap.KindEntry, one, two), made(t, h, heap.KindEntry, one, two), none},
		{vec(), vec(), table.EqualpTest}, {vec(one, two), vec(one, two), table.EqualpTest}, {vec(one, two), vec(oneS, two), table.EqualpTest}, {vec(one, two), vec(two, one), none}, {vec(one), vec(one, one), none}, {vec(), str(""), table.EqualpTest}, {vec(char('a'), char('B')), str("Ab"), table.EqualpTest}, {vec(cons(one, two)), vec(cons(oneD, two)), table.EqualpTest}, {vec(vec(one)), vec(bits("1")), table.EqualpTest},
		{array([]heap.Word{two}, one, two), vec(one, two), table.EqualpTest}, {array([]heap.Word{fix(0)}), str(""), table.EqualpTest}, {array([]heap.Word{two}, char('a'), char('b')), str("AB"), table.EqualpTest}, {array([]heap.Word{two}, one, fix(0)), bits("10"), table.EqualpTest}, {array([]heap.Word{two, one}, one, two), array([]heap.Word{two, one}, one, two), table.EqualpTest}, {array([]heap.Word{two, one}, one, two), array([]heap.Word{one, two}, one, two), none}, {array([]heap.Word{two, one}, one, two), vec(one, two), none}, {array(nil, one), array(nil, one), table.EqualpTest}, {array(nil, one), vec(one), none}, {array(nil), array(nil), table.EqualpTest}, {array([]heap.Word{num(heap.KindInt, "2")}, one, two), vec(one, two), none}, {array([]heap.Word{oneS}, one), array([]heap.Word{oneS}, one), table.EqualpTest}, {array([]heap.Word{num(heap.KindInt, "1")}, one), array([]heap.Word{num(heap.KindInt, "1")}, one), none}, {array([]heap.Word{two}, one), array([]heap.Word{two}, one), table.EqualpTest}, {array([]heap.Word{two}, one), array([]heap.Word{two}, one, one), none}, {array([]heap.Word{two}, one), vec(one, one), none},
		{made(t, h, heap.KindArray, vec(two), cons(one, two)), made(t, h, heap.KindArray, vec(two), cons(one, two)), none}, {made(t, h, heap.KindArray, vec(one)), made(t, h, heap.KindArray, vec(one)), none}, {made(t, h, heap.KindArray, vec(one), vec(one), vec(one)), vec(one), none}, {made(t, h, heap.KindArray, raw(t, h, heap.KindVector, ""), vec(one)), array(nil, one), none},
		{raw(t, h, heap.KindVector, ""), vec(), none}, {made(t, h, heap.KindString), str(""), none}, {made(t, h, heap.KindBits), bits(""), none}, {made(t, h, heap.KindString, char('a')), made(t, h, heap.KindString, char('a')), none},
	} {
		for test := range 4 {
			want := test >= c.least
			if got := same(t, h, test, c.a, c.b); got != want {
				t.Errorf("%d: the test %d = %v", i, test, got)
			}
			if got := same(t, h, test, c.b, c.a); got != want {
				t.Errorf("%d, the other way round: the test %d = %v", i, test, got)
			}
			if a, b := hash(t, h, test, c.a), hash(t, h, test, c.b); want && a != b {
				t.Errorf("%d: the test %d has the hashes %d, %d", i, test, a, b)
			}
		}
	}
}

func hash(t *testing.T, h *heap.Heap, test int, w heap.Word) uint64 {
	t.Helper()
	n, e := table.Hash(h, test, w)
	is(t, "Hash", e, api.OK)
	return n
}

// The relations, and the hashes, of all words of a heap are those of the definitions, ahead of a Keep and behind it.
func TestGreatestRelations(t *testing.T) {
	for seed := range int64(150) {
		r := rand.New(rand.NewSource(seed))
		h := mustHeap(t, 5000)
		for range 30 {
			addAny(r, h)
		}
		for range 10 {
			h.Set(anyWord(r, h), r.Intn(2), anyWord(r, h))
		}
		for test := range 4 {
			holdRelation(t, h, test, seed)
		}
		words := h.Objects()
		var before []uint64
		for _, w := range words {
			h.Root(w)
			before = append(before, hash(t, h, table.EqualTest, w), hash(t, h, table.EqualpTest, w))
		}
		moveAll(t, r, h)
		for i := range words {
			w, _ := h.At(i)
			if hash(t, h, table.EqualTest, w) != before[2*i] || hash(t, h, table.EqualpTest, w) != before[2*i+1] {
				t.Fatalf("seed %d: a hash is another one behind Keep", seed)
			}
		}
		holdRelation(t, h, table.EqualpTest, seed)
	}
}

// holdRelation compares a relation with the greatest one.
func holdRelation(t *testing.T, h *heap.Heap, test int, seed int64) {
	t.Helper()
	words := append(h.Objects(), fix(-1), fix(0), fix(1), fix(2), char('a'), char('A'), char('b'), char('é'), char('É'), heap.Unbound)
	want := greatest(h, test, words)
	for _, a := range words {
		for _, b := range words {
			wanted := want[[2]heap.Word{a, b}]
			if got := same(t, h, test, a, b); got != wanted {
				t.Fatalf("seed %d, test %d: %d and %d: %v; expected %v", seed, test, a, b, got, wanted)
			}
			if wanted && hash(t, h, test, a) != hash(t, h, test, b) {
				t.Fatalf("seed %d, test %d: %d and %d have other hashes", seed, test, a, b)
			}
		}
	}
}

// ring is a circular list with these elements.
func ring(t *testing.T, h *heap.Heap, l ...heap.Word) heap.Word {
	t.Helper()
	last := cons(t, h, l[len(l)-1], heap.Nil)
	first := last
	for _, x := range slices.Backward(l[:len(l)-1]) {
		first = cons(t, h, x, first)
	}
	is(t, "Set", h.Set(last, 1, first), api.OK)
	return first
}

func TestCircles(t *testing.T) {
	h := mustHeap(t, 65536)
	a, b := fix(1), fix(2)
	for _, c := range []struct {
		a, b []heap.Word
		want bool
	}{
		{[]heap.Word{a}, []heap.Word{a}, true}, {[]heap.Word{a}, []heap.Word{a, a}, true}, {[]heap.Word{a, a, a}, []heap.Word{a, a}, true}, {[]heap.Word{a, b}, []heap.Word{a, b, a, b, a, b}, true}, {[]heap.Word{a, b}, []heap.Word{a, b, a}, false}, {[]heap.Word{a}, []heap.Word{a, a, a, b}, false},
		{slices.Repeat([]heap.Word{a}, 9007), slices.Repeat([]heap.Word{a}, 9011), true}, {slices.Repeat([]heap.Word{a, b}, 500), append(slices.Repeat([]heap.Word{a, b}, 501), a), false},
	} {
		x, y := ring(t, h, c.a...), ring(t, h, c.b...)
		for _, test := range []int{table.EqualTest, table.EqualpTest} {
			if same(t, h, test, x, y) != c.want || same(t, h, test, y, x) != c.want {
				t.Errorf("circles of %d and %d: the test %d is not %v", len(c.a), len(c.b), test, c.want)
			}
			if c.want && hash(t, h, test, x) != hash(t, h, test, y) {
				t.Errorf("circles of %d and %d: the hashes differ", len(c.a), len(c.b))
			}
		}
		if same(t, h, table.EqlTest, x, y) {
			t.Error("circles are eql")
		}
	}
	h = mustHeap(t, 65536)
	v, w := made(t, h, heap.KindVector, a, a), array(t, h, []heap.Word{b}, a, a) // a vector and an array that have themselves
	elements, _ := h.Get(w, 1)
	h.Set(v, 1, v)
	h.Set(elements, 1, w)
	if !same(t, h, table.EqualpTest, v, w) || same(t, h, table.EqualTest, v, w) {
		t.Error("arrays within themselves")
	}
	c := made(t, h, heap.KindComplex, a, a)
	h.Set(c, 1, c)
	if same(t, h, table.EqualpTest, c, a) || !same(t, h, table.EqualpTest, c, c) {
		t.Error("a complex number within itself")
	}
	hash(t, h, table.EqualpTest, c)
}

// Objects as deep, and with as many ways through them, as there is room for.
func TestGreatObjects(t *testing.T) {
	for _, first := range []bool{true, false} {
		h := mustHeap(t, 65536)
		tops := []heap.Word{heap.Nil, heap.Nil}
		for i := range tops {
			for range 10900 {
				if first {
					tops[i] = cons(t, h, tops[i], fix(3))
				} else {
					tops[i] = cons(t, h, fix(3), tops[i])
				}
			}
		}
		if !same(t, h, table.EqualTest, tops[0], tops[1]) || !same(t, h, table.EqualpTest, tops[0], tops[1]) || hash(t, h, table.EqualTest, tops[0]) != hash(t, h, table.EqualTest, tops[1]) {
			t.Error("two long lists are not equal")
		}
	}
	h := mustHeap(t, 65536)
	tops := []heap.Word{fix(3), fix(3)}
	for range 15 {
		for i, x := range tops {
			tops[i] = made(t, h, heap.KindVector, slices.Repeat([]heap.Word{x}, 1000)...)
		}
	}
	if !same(t, h, table.EqualpTest, tops[0], tops[1]) || hash(t, h, table.EqualpTest, tops[0]) != hash(t, h, table.EqualpTest, tops[1]) {
		t.Error("two deep vectors are not equalp")
	}
	h = mustHeap(t, 65536)
	digits := strings.Repeat("7", 20000)
	x, y := raw(t, h, heap.KindInt, digits), raw(t, h, heap.KindInt, digits)
	a := made(t, h, heap.KindVector, slices.Repeat([]heap.Word{x}, 5000)...)
	b := made(t, h, heap.KindVector, slices.Repeat([]heap.Word{y}, 5000)...)
	if !same(t, h, table.EqualpTest, a, b) {
		t.Error("two vectors of great numbers are not equalp")
	}
	if z := raw(t, h, heap.KindInt, digits+"7"); same(t, h, table.EqlTest, z, raw(t, h, heap.KindInt, digits+"7")) {
		t.Error("what has too many digits for a number is one")
	}
}

// Hashes tell most words apart: without that they would be of no use.
func TestHashesDiffer(t *testing.T) {
	h := mustHeap(t, 30000)
	for _, c := range []struct {
		what  string
		tests []int
		make  func(i int) heap.Word
	}{
		{"fixnums", []int{table.Eq, table.EqlTest, table.EqualTest, table.EqualpTest}, fix},
		{"characters", []int{table.Eq, table.EqlTest, table.EqualTest, table.EqualpTest}, func(i int) heap.Word { return char(rune(200 + i)) }},
		{"boxes", []int{table.Eq, table.EqlTest}, func(i int) heap.Word { return made(t, h, heap.KindBox, fix(7)) }},
		{"ratios", []int{table.EqlTest, table.EqualTest, table.EqualpTest}, func(i int) heap.Word { return raw(t, h, heap.KindRatio, strconv.Itoa(2*i+1)+"/2") }},
		{"complex numbers", []int{table.EqlTest, table.EqualpTest}, func(i int) heap.Word { return made(t, h, heap.KindComplex, fix(5), fix(i+1)) }},
		{"strings", []int{table.EqualTest, table.EqualpTest}, func(i int) heap.Word { return str(t, h, "key"+strconv.Itoa(i)) }},
		{"bits", []int{table.EqualTest, table.EqualpTest}, func(i int) heap.Word { return raw(t, h, heap.KindBits, strconv.FormatInt(int64(i), 2)) }},
		{"lists", []int{table.EqualTest, table.EqualpTest}, func(i int) heap.Word { return list(t, h, fix(1), str(t, h, "a"), fix(i)) }},
		{"vectors", []int{table.EqualpTest}, func(i int) heap.Word { return made(t, h, heap.KindVector, fix(i%20), fix(i/20)) }},
		{"lengths", []int{table.EqualpTest}, func(i int) heap.Word {
			return made(t, h, heap.KindVector, slices.Repeat([]heap.Word{heap.Nil}, i%60)...)
		}},
	} {
		for _, test := range c.tests {
			seen := map[uint64]bool{}
			n := 200
			if c.what == "lengths" {
				n = 60
			}
			for i := range n {
				seen[hash(t, h, test, c.make(i))] = true
			}
			if len(seen) < n-2 {
				t.Errorf("%d %s have %d hashes by the test %d", n, c.what, len(seen), test)
			}
		}
	}
}
