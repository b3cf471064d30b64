package lib_test

import (
	"testing"

	"commonform/heap"
)

func TestArrays(t *testing.T) {
	w := newWorld(t)
	v := object(t, w, "#(1 2 3)")
	set(t, w, "V", v)
	a := object(t, w, "#2a((1 2 3) (4 5 6))")
	set(t, w, "A", a)
	check(t, w, []row{
		{"(vector)", "#()"}, {"(vector 1 a)", "#(1 a)"},
		{"(make-array 2)", "#(nil nil)"}, {"(make-array 2 7)", "#(7 7)"}, {"(make-array 0)", "#()"}, {"(make-array (2))", "#(nil nil)"}, {"(make-array (2 1) 0)", "#2A((0) (0))"}, {"(make-array nil 5)", "#0A5"}, {"(make-array (0 3))", "#2A()"}, {"(make-array (1 1 1 1 1 1 1) 1)", "#7A(((((((1)))))))"},
		{"(make-array -1)", "! TYPE-ERROR -1 list"}, {"(make-array (1 -1))", "! TYPE-ERROR (1 -1) list"}, {"(make-array (1 . 2))", "! TYPE-ERROR (1 . 2) list"}, {"(make-array a)", "! TYPE-ERROR a list"}, {"(make-array 1.0)", "! TYPE-ERROR 1.0 list"}, {"(make-array (a))", "! TYPE-ERROR (a) list"}, {"(make-array #1=(1 . #1#))", "! TYPE-ERROR #0=(1 . #0#) list"}, {"(make-array)", "! PROGRAM-ERROR make-array"},
		{"(make-array 16385)", "limit 11"}, {"(make-array (129 128))", "limit 11"}, {"(make-array 1180591620717411303424)", "limit 11"}, {"(make-array (1 1 1 1 1 1 1 1))", "limit 11"}, {"(make-array (1180591620717411303424 2))", "limit 11"}, {"(make-array (0 1180591620717411303424))", "limit 11"}, {"(make-array (16384 16384 16384 16384 16384 16384 16384))", "limit 11"}, {"(array-dimensions #2a())", "(0 0)"}, {"(make-array (1152921504606846975 1152921504606846975))", "limit 11"},
		{"(aref $v 1)", "2"}, {"(aref $v 3)", "! TYPE-ERROR 3 integer"}, {"(aref $v)", "! PROGRAM-ERROR aref"}, {"(aref $v 1 1)", "! PROGRAM-ERROR aref"}, {"(aref $v -1)", "! TYPE-ERROR -1 unsigned-byte"}, {"(aref $v 1180591620717411303424)", "! TYPE-ERROR 1180591620717411303424 integer"}, {"(aref (1) 0)", "! TYPE-ERROR (1) array"}, {"(aref)", "! PROGRAM-ERROR aref"},
		{"(aref \"aéb\" 1)", "#\\é"}, {"(aref #*01 1)", "1"}, {"(aref #*01 0)", "0"}, {"(aref #*01 2)", "! TYPE-ERROR 2 integer"}, {"(aref #0a5)", "5"}, {"(aref #0a5 0)", "! PROGRAM-ERROR aref"},
		{"(aref $a 0 2)", "3"}, {"(aref $a 1 0)", "4"}, {"(aref $a 2 5)", "! TYPE-ERROR 2 integer"}, {"(aref $a 1 3)", "! TYPE-ERROR 3 integer"}, {"(aref $a 1)", "! PROGRAM-ERROR aref"}, {"(aref $a 9)", "! PROGRAM-ERROR aref"},
		{"(%aset $v 1 x)", "x"}, {"(aref $v 1)", "x"}, {"(%aset $a 1 2 y)", "y"}, {"(aref $a 1 2)", "y"}, {"(aref $a 0 2)", "3"}, {"(%aset $v 3 x)", "! TYPE-ERROR 3 integer"}, {"(%aset $v x)", "! PROGRAM-ERROR %aset"}, {"(%aset $v 1 1 x)", "! PROGRAM-ERROR %aset"}, {"(%aset $v)", "! PROGRAM-ERROR %aset"}, {"(%aset $v a x)", "! TYPE-ERROR a unsigned-byte"}, {"(%aset #0a5 7)", "7"},
		{"(%aset \"abc\" 1 x)", "! TYPE-ERROR \"abc\" array"}, {"(%aset \"abc\" 9 9 x)", "! TYPE-ERROR \"abc\" array"}, {"(%aset #*01 0 1)", "! TYPE-ERROR #*01 array"}, {"(%aset nil 0 1)", "! TYPE-ERROR nil array"},
		{"(array-dimensions $a)", "(2 3)"}, {"(array-dimensions $v)", "(3)"}, {"(array-dimensions \"é\")", "(1)"}, {"(array-dimensions #*)", "(0)"}, {"(array-dimensions #0a5)", "nil"}, {"(array-dimensions (1))", "! TYPE-ERROR (1) array"}, {"(array-rank $a)", "2"}, {"(array-rank \"\")", "1"}, {"(array-rank #0a5)", "0"},
	})
	for _, s := range []string{"(make-array 16384)", "(make-array (128 128))", "(make-array (16384 1))"} {
		if a := call(t, newWorld(t), s); a.Kind != 0 {
			t.Errorf("%s is %v", s, a)
		}
	}
	// Each array is a new one, and its elements are the same object.
	x := object(t, w, "(1)")
	set(t, w, "X", x)
	made := call(t, w, "(make-array 3 $x)").Values[0]
	for i := range 3 {
		if y, _ := w.Heap().Get(made, i); y != x {
			t.Errorf("element %d is another object", i)
		}
	}
}

// Objects that only look like arrays are none.
func TestWrongArrays(t *testing.T) {
	w := newWorld(t)
	vector := func(l ...heap.Word) heap.Word { return making(t, w, heap.KindVector, l...) }
	for i, x := range []heap.Word{
		making(t, w, heap.KindArray),
		making(t, w, heap.KindArray, vector(), vector(fix(1)), heap.Nil),
		making(t, w, heap.KindArray, fix(1), vector(fix(1))),
		making(t, w, heap.KindArray, vector(), fix(1)),
		making(t, w, heap.KindArray, vector(fix(2), fix(2)), vector(fix(1))),
		making(t, w, heap.KindArray, vector(fix(-1), fix(-1)), vector(fix(1))),
		making(t, w, heap.KindArray, vector(heap.Nil), vector()),
		making(t, w, heap.KindArray, vector(fix(0)), fix(1)),
		making(t, w, heap.KindArray, vector(fix(1<<32), fix(1<<32)), vector()),
		raw(t, w, heap.KindArray, "ab"),
		raw(t, w, heap.KindVector, "ab"),
		making(t, w, heap.KindString, fix(1)),
		making(t, w, heap.KindString),
		making(t, w, heap.KindBits, fix(1)),
	} {
		set(t, w, "X", x)
		check(t, w, []row{{"(arrayp $x)", "nil"}, {"(array-rank $x)", "! TYPE-ERROR %::object array"}, {"(vectorp $x)", "nil"}, {"(length $x)", "! TYPE-ERROR %::object sequence"}, {"(prin1-to-string $x)", "\"%::object\""}})
		if t.Failed() {
			t.Fatalf("array %d", i)
		}
	}
}

func TestHashTables(t *testing.T) {
	w := newWorld(t)
	for _, test := range []string{"eq", "eql", "equal", "equalp", ":equal", "#:eq"} {
		if got := told(w, call(t, w, "(make-hash-table "+test+")")); got != "%::table" {
			t.Errorf("a table with the test %s: %s", test, got)
		}
	}
	check(t, w, []row{{"(make-hash-table car)", "! TYPE-ERROR car function"}, {"(make-hash-table 5)", "! TYPE-ERROR 5 symbol"}, {"(make-hash-table)", "! PROGRAM-ERROR make-hash-table"}})
	set(t, w, "H", call(t, w, "(make-hash-table equal)").Values[0])
	set(t, w, "Q", call(t, w, "(make-hash-table eq)").Values[0])
	set(t, w, "FAKE", making(t, w, heap.KindTable))
	check(t, w, []row{
		{"(gethash \"a\" $h)", "nil nil"}, {"(gethash \"a\" $h 5)", "5 nil"}, {"(%puthash \"a\" $h 7)", "7"}, {"(gethash \"a\" $h)", "7 t"}, {"(gethash \"a\" $h 5)", "7 t"}, {"(gethash \"A\" $h)", "nil nil"}, {"(hash-table-count $h)", "1"},
		{"(%puthash b $h nil)", "nil"}, {"(gethash b $h 5)", "nil t"}, {"(%puthash \"a\" $h 8)", "8"}, {"(hash-keys $h)", "(\"a\" b)"}, {"(hash-table-count $h)", "2"},
		{"(remhash \"a\" $h)", "t"}, {"(remhash \"a\" $h)", "nil"}, {"(%puthash \"a\" $h 9)", "9"}, {"(hash-keys $h)", "(b \"a\")"}, {"(clrhash $h)", "%::table"}, {"(hash-table-count $h)", "0"}, {"(hash-keys $h)", "nil"},
		{"(%puthash \"a\" $q 7)", "7"}, {"(gethash \"a\" $q)", "nil nil"}, {"(%puthash a $q 8)", "8"}, {"(gethash a $q)", "8 t"},
		{"(gethash a 5)", "! TYPE-ERROR 5 hash-table"}, {"(%puthash a nil 1)", "! TYPE-ERROR nil hash-table"}, {"(remhash a a)", "! TYPE-ERROR a hash-table"}, {"(clrhash a)", "! TYPE-ERROR a hash-table"}, {"(hash-table-count \"h\")", "! TYPE-ERROR \"h\" hash-table"}, {"(hash-keys (1))", "! TYPE-ERROR (1) hash-table"}, {"(gethash a $fake)", "! TYPE-ERROR %::table hash-table"}, {"(hash-table-p $fake)", "nil"},
	})
}
