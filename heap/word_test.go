package heap_test

import (
	"math"
	"math/rand"
	"testing"

	"commonform/api"
	"commonform/heap"
)

func TestFix(t *testing.T) {
	for _, c := range []struct {
		n    int64
		want heap.Word
	}{{0, 0}, {1, 8}, {5, 40}, {-1, 1<<64 - 8}, {-2, 1<<64 - 16}, {1<<60 - 1, 1<<63 - 8}, {-1 << 60, 1 << 63}} {
		w, e := heap.Fix(c.n)
		n, ok := w.Fixnum()
		if w != c.want || e != api.OK || n != c.n || !ok {
			t.Errorf("Fix(%d) = %d, %v, of which Fixnum is %d, %v; expected %d", c.n, w, e, n, ok, c.want)
		}
	}
	for _, n := range []int64{1 << 60, -1<<60 - 1, math.MaxInt64, math.MinInt64, 1 << 61, -1 << 61, 1 << 62} {
		if w, e := heap.Fix(n); w != 0 || e != api.ErrRange {
			t.Errorf("Fix(%d) = %d, %v; expected ErrRange", n, w, e)
		}
	}
	r := rand.New(rand.NewSource(1))
	for range 10000 {
		want := int64(r.Uint64()) >> (3 + r.Intn(60))
		w, e := heap.Fix(want)
		if n, ok := w.Fixnum(); n != want || !ok || e != api.OK {
			t.Fatalf("Fixnum of Fix(%d) = %d, %v, %v", want, n, ok, e)
		}
	}
}

func TestChar(t *testing.T) {
	for c := rune(-3); c < 1114120; c++ {
		isThere := c >= 0 && c <= 1114111 && (c < 55296 || c > 57343)
		w, e := heap.Char(c)
		got, ok := w.Character()
		switch {
		case isThere && (e != api.OK || w != heap.Word(c)*8+1 || got != c || !ok):
			t.Fatalf("Char(%d) = %d, %v, of which Character is %d, %v", c, w, e, got, ok)
		case !isThere && (e != api.ErrRange || w != 0):
			t.Fatalf("Char(%d) = %d, %v; expected ErrRange", c, w, e)
		}
	}
	for _, c := range []rune{math.MaxInt32, math.MinInt32} {
		if w, e := heap.Char(c); w != 0 || e != api.ErrRange {
			t.Errorf("Char(%d) = %d, %v", c, w, e)
		}
	}
}

// P15.2: a word is at most one of a fixnum, a character, Unbound and a reference.
func TestOneOfAll(t *testing.T) {
	r := rand.New(rand.NewSource(2))
	words := append(someBad(), 0, 8, 777, heap.Unbound, heap.Nil, ref(1<<60), 1<<63|3)
	for range 20000 {
		words = append(words, heap.Word(r.Uint64()>>r.Intn(64)))
	}
	for _, w := range words {
		n, isFixnum := w.Fixnum()
		c, isCharacter := w.Character()
		value := int64(w >> 3)
		if isFixnum != (w%8 == 0) || isFixnum && n*8 != int64(w) || !isFixnum && n != 0 {
			t.Errorf("Fixnum of %d = %d, %v", w, n, isFixnum)
		}
		if isCharacter != (w%8 == 1 && (value < 55296 || value > 57343 && value <= 1114111)) || isCharacter && int64(c) != value || !isCharacter && c != 0 {
			t.Errorf("Character of %d = %d, %v", w, c, isCharacter)
		}
		if w.IsRef() != (w%8 == 3) {
			t.Errorf("IsRef of %d = %v", w, w.IsRef())
		}
	}
	if heap.Unbound.IsRef() || !heap.Nil.IsRef() {
		t.Error("the marks")
	}
}

func TestKinds(t *testing.T) {
	for i, kind := range []int{heap.KindSymbol, heap.KindInt, heap.KindRatio, heap.KindSingle, heap.KindDouble, heap.KindComplex} {
		if kind != 1+i {
			t.Errorf("the kind %d is %d", 1+i, kind)
		}
	}
	for i, kind := range []int{heap.KindString, heap.KindBits, heap.KindCons, heap.KindVector, heap.KindArray, heap.KindTable, heap.KindEntry, heap.KindClosure, heap.KindCode, heap.KindBuiltin, heap.KindClass, heap.KindInstance, heap.KindGeneric, heap.KindMethod, heap.KindWeak, heap.KindPackage, heap.KindBox, heap.KindEphemeron} {
		if kind != 8+i {
			t.Errorf("the kind %d is %d", 8+i, kind)
		}
	}
	if heap.KindLast != 31 {
		t.Error("the last kind")
	}
}
