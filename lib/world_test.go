package lib_test

import (
	"slices"
	"strconv"
	"strings"
	"testing"

	"commonform/api"
	"commonform/heap"
	"commonform/lib"
	"commonform/symbols"
)

// table is what the chapter's tables say of the arguments of each function.
const table = `CONS x x; CAR l; CDR l; RPLACA d x; RPLACD d x; LIST x..; LIST* x x..; CONSP x; ATOM x; LISTP x; NULL x; NOT x; APPEND x..; REVERSE p; NTH k l; NTHCDR k l; LAST l; LENGTH q; MEMBER x p; ASSOC x p; COPY-LIST p;
EQ x x; EQL x x; EQUAL x x; EQUALP x x; SYMBOLP x; KEYWORDP x; NUMBERP x; INTEGERP x; RATIONALP x; REALP x; FLOATP x; COMPLEXP x; CHARACTERP x; STRINGP x; BIT-VECTOR-P x; VECTORP x; ARRAYP x; FUNCTIONP x; HASH-TABLE-P x;
+ n..; * n..; - n n..; / n n..; = n n..; /= n n..; < r r..; <= r r..; > r r..; >= r r..; MAX r r..; MIN r r..; ABS r; FLOOR r [r]; CEILING r [r]; TRUNCATE r [r]; ROUND r [r]; MOD r r; REM r r; GCD i..; LCM i..; LOGAND i..; LOGIOR i..; LOGXOR i..; LOGNOT i; ASH i i; EXPT n i; NUMERATOR a; DENOMINATOR a; COMPLEX r [r]; REALPART n; IMAGPART n; RATIONAL r; RATIONALIZE r; FLOAT r [r];
SYMBOL-NAME s; SYMBOL-PACKAGE s; SYMBOL-VALUE s; SET s x; BOUNDP s; MAKUNBOUND s; SYMBOL-FUNCTION s; %FSET s g; FBOUNDP s; FMAKUNBOUND s; SYMBOL-PLIST s; %SET-PLIST s x; INTERN t [t]; FIND-SYMBOL t [t]; MAKE-SYMBOL t; GENSYM [t];
CHAR-CODE c; CODE-CHAR k; CHAR-UPCASE c; CHAR-DOWNCASE c; CHAR t k; STRING= t t; STRING< t t; CONCAT t..; SUBSEQ q k [k]; STRING x;
VECTOR x..; MAKE-ARRAY x [x]; AREF v k..; %ASET v k.. x; ARRAY-DIMENSIONS v; ARRAY-RANK v; MAKE-HASH-TABLE s; GETHASH x h [x]; %PUTHASH x h x; REMHASH x h; CLRHASH h; HASH-TABLE-COUNT h; HASH-KEYS h;
TYPEP x x; SUBTYPEP x x; FUNCALL g x..; APPLY g x x..; VALUES x..; IDENTITY x;
PRIN1 x; PRINC x; PRINT x; TERPRI; WRITE-STRING t; PRIN1-TO-STRING x; PRINC-TO-STRING x; READ-FROM-STRING t; FORMAT x t x..`

// A kind of argument has the name of its type, an object of it, and objects that are not.
type kind struct {
	name, right string
	wrong       []string
}

func kinds() map[byte]kind {
	return map[byte]kind{
		'x': {"", "x", nil},
		'l': {"LIST", "(1)", []string{"5", "t", "\"a\"", "#(1)"}},
		'p': {"LIST", "(1)", []string{"5", "(1 . 2)", "#1=(1 . #1#)", "#(1)"}},
		'q': {"SEQUENCE", "\"ab\"", []string{"5", "a", "(1 . 2)", "#1=(1 . #1#)", "#2a((1))"}},
		's': {"SYMBOL", "x", []string{"5", "\"x\"", "(x)"}},
		'n': {"NUMBER", "2", []string{"a", "nil", "\"1\"", "#\\1"}},
		'r': {"REAL", "2", []string{"a", "#c(1 2)"}},
		'a': {"RATIONAL", "1/2", []string{"a", "1.5", "#c(1 2)"}},
		'i': {"INTEGER", "2", []string{"a", "1/2", "1.0", "#c(1 2)"}},
		'k': {"UNSIGNED-BYTE", "1", []string{"a", "-1", "1.0", "1/2", "-1180591620717411303424"}},
		'c': {"CHARACTER", "#\\a", []string{"a", "97", "\"a\""}},
		't': {"STRING", "\"ab\"", []string{"a", "#\\a", "#(1)", "nil"}},
		'v': {"ARRAY", "#(1 2)", []string{"a", "(1)", "nil"}},
		'h': {"HASH-TABLE", "$table", []string{"a", "nil", "#(1)"}},
		'd': {"CONS", "(1)", []string{"nil", "5", "#(1)"}},
		'g': {"FUNCTION", "car", []string{"5", "(car)", "\"car\""}},
	}
}

// rows returns the names of the table, each with its arguments.
func rows() [][]string {
	var all [][]string
	for line := range strings.SplitSeq(strings.ReplaceAll(table, "\n", " "), ";") {
		all = append(all, strings.Fields(line))
	}
	return all
}

func TestNamesAndArities(t *testing.T) {
	var names []string
	for _, row := range rows() {
		names = append(names, row[0])
		least, most := 0, 0
		for _, arg := range row[1:] {
			switch {
			case strings.HasSuffix(arg, ".."):
				most = -1000
			case arg[0] == '[':
				most++
			default:
				least++
				most++
			}
		}
		l, m, e := lib.Arity(row[0])
		if e != api.OK || l != least || m != max(most, -1) {
			t.Errorf("Arity(%s) = %d, %d, %v; want %d, %d", row[0], l, m, e, least, max(most, -1))
		}
	}
	if got := lib.Names(); !slices.Equal(got, names) {
		t.Errorf("Names = %v", got)
	}
	for _, name := range []string{"", "car", "NOPE", "COMMON-LISP:CAR"} {
		if l, m, e := lib.Arity(name); l != 0 || m != 0 || e != api.ErrNone {
			t.Errorf("Arity(%q) = %d, %d, %v; want ErrNone", name, l, m, e)
		}
	}
}

// Too few and too many arguments, and each argument of a wrong type, from left to right.
func TestWrongArguments(t *testing.T) {
	w := newWorld(t)
	set(t, w, "TABLE", call(t, w, "(make-hash-table eq)").Values[0])
	for _, row := range rows() {
		name := strings.ToLower(row[0])
		var letters []byte
		for _, arg := range row[1:] {
			letters = append(letters, strings.TrimLeft(arg, "[")[0])
		}
		right := func(n int) string {
			s := "(" + name
			for _, c := range letters[:n] {
				s += " " + kinds()[c].right
			}
			return s
		}
		least, most, _ := lib.Arity(row[0])
		want := "! PROGRAM-ERROR " + name
		if least > 0 {
			if got := told(w, call(t, w, right(least-1)+")")); got != want {
				t.Errorf("%s): %s; want %s", right(least-1), got, want)
			}
		}
		if most >= 0 {
			if got := told(w, call(t, w, right(most)+" 5)")); got != want {
				t.Errorf("%s 5): %s; want %s", right(most), got, want)
			}
			if got := told(w, call(t, w, "("+name+strings.Repeat(" #()", most+1)+")")); got != want {
				t.Errorf("(%s) with wrong arguments that are too many: %s; want %s", name, got, want)
			}
		}
		for i, c := range letters {
			for _, wrong := range kinds()[c].wrong {
				s := right(i) + " " + wrong
				for k := i + 1; k < least || name == "%aset" && k < len(letters); k++ {
					s += " #\\z" // what is behind is not looked at
				}
				want := "! TYPE-ERROR " + text(read(t, wrong)) + " " + strings.ToLower(kinds()[c].name)
				if got := told(w, call(t, w, s+")")); got != want {
					t.Errorf("%s): %s; want %s", s, got, want)
				}
			}
		}
	}
}

// The first symbols of a world, their objects and roots.
func TestNew(t *testing.T) {
	w := newWorld(t)
	names := append([]string{"NIL", "T"}, lib.Names()...)
	types := []string{"SEQUENCE", "SYMBOL", "NUMBER", "REAL", "INTEGER", "UNSIGNED-BYTE", "CHARACTER", "ARRAY", "HASH-TABLE", "FUNCTION"}
	for n, name := range append(names, types...) {
		got, home, e := w.Symbols().Symbol(n)
		if e != api.OK || got != name || home != "COMMON-LISP" {
			t.Fatalf("the symbol %d is %s of %s, %v; want %s", n, got, home, e, name)
		}
		if _, status, _ := w.Symbols().Find("COMMON-LISP", name); status != symbols.External {
			t.Errorf("%s has the status %d", name, status)
		}
	}
	if _, _, e := w.Symbols().Symbol(len(names) + len(types)); e == api.OK {
		t.Error("there are more symbols")
	}
	h := w.Heap()
	p := w.Parts()
	if len(p.Numbers) != len(names) || p.Counter != 0 || p.Output != "" || len(h.Roots()) != len(names) {
		t.Fatalf("%d objects, %d roots", len(p.Numbers), len(h.Roots()))
	}
	for n, x := range p.Words {
		var fields []heap.Word
		for i := range h.Len(x) {
			y, _ := h.Get(x, i)
			fields = append(fields, y)
		}
		if h.Kind(x) != heap.KindSymbol || len(fields) != 5 || fields[0] != fix(int64(n)) || h.Kind(fields[1]) != heap.KindString || fields[4] != heap.Nil {
			t.Fatalf("the object of %s has %v", names[n], fields)
		}
		if s, _ := h.Bytes(fields[1]); s != names[n] {
			t.Errorf("the name of %s is %s", names[n], s)
		}
		value, function := heap.Unbound, heap.Unbound
		if n < 2 {
			value = x
		}
		if fields[2] != value || n < 2 && fields[3] != function {
			t.Errorf("%s has the value %v", names[n], fields[2])
		}
		if n >= 2 {
			index, _ := h.Get(fields[3], 0)
			if h.Kind(fields[3]) != heap.KindBuiltin || h.Len(fields[3]) != 1 || index != fix(int64(n-2)) {
				t.Errorf("the function of %s is %v", names[n], fields[3])
			}
		}
	}
	if p.Words[0] != heap.Nil {
		t.Error("NIL is not the first object")
	}
}

func TestNewErrors(t *testing.T) {
	least := leastLimit(t)
	for _, c := range []struct {
		limit, young int
		e            api.Errno
	}{
		{63, 5, api.ErrArg}, {api.MaxWords + 1, 5, api.ErrArg}, {api.MaxWords, 0, api.ErrArg}, {64, 65, api.ErrArg}, {64, 1, api.ErrWords}, {least - 1, 1, api.ErrWords}, {least, 1, api.OK}, {api.MaxWords, api.MaxWords, api.OK},
	} {
		if w, e := lib.New(c.limit, c.young); e != c.e || (w == nil) != (e != api.OK) {
			t.Errorf("New(%d, %d): %v; want %v", c.limit, c.young, e, c.e)
		}
	}
	w, _ := lib.New(least+7, 9)
	if w.Heap().Limit() != least+7 || w.Heap().Full() != true {
		t.Errorf("the heap has the limit %d", w.Heap().Limit())
	}
}

func TestSymbol(t *testing.T) {
	w := newWorld(t)
	long := strings.Repeat("X", api.MaxName+1)
	for _, c := range []struct {
		home, name string
		e          api.Errno
		home2      string
	}{
		{"COMMON-LISP", "CAR", api.OK, "COMMON-LISP"}, {"COMMON-LISP-USER", "CAR", api.OK, "COMMON-LISP"}, {"CL-USER", "X", api.OK, "COMMON-LISP-USER"}, {"KEYWORD", "X", api.OK, "KEYWORD"}, {"COMMON-LISP-USER", "", api.OK, "COMMON-LISP-USER"}, {"COMMON-LISP-USER", long[1:], api.OK, "COMMON-LISP-USER"},
		{"P", "X", api.ErrNone, ""}, {"", "X", api.ErrNone, ""}, {"COMMON-LISP", long, api.ErrSize, ""}, {long, "X", api.ErrSize, ""},
	} {
		x, e := w.Symbol(c.home, c.name)
		if e != c.e || e != api.OK && x != 0 {
			t.Errorf("Symbol(%s, %s): %v; want %v", c.home, c.name, e, c.e)
			continue
		}
		again, e := w.Symbol(c.home, c.name)
		home, name, e2 := w.Name(x)
		if c.e == api.OK && (e != api.OK || again != x || e2 != api.OK || home != c.home2 || name != c.name) {
			t.Errorf("Symbol(%s, %s) is %s of %s, %v", c.home, c.name, name, home, e)
		}
	}
	// New symbols, and a full table.
	x := symbol(t, w, "COMMON-LISP-USER", "NEW")
	if v, _ := w.Value(x); v != heap.Unbound {
		t.Errorf("a new symbol has the value %v", v)
	}
	k := symbol(t, w, "KEYWORD", "NEW")
	if v, _ := w.Value(k); v != k {
		t.Errorf("a new keyword has the value %v", v)
	}
	fill(t, w, 0)
	if x, e := w.Symbol("COMMON-LISP-USER", "ANOTHER"); x != 0 || e != api.ErrFull {
		t.Errorf("a symbol of a full table: %v", e)
	}
	if x, e := w.Symbol("COMMON-LISP", "INTEGER"); x == 0 || e != api.OK {
		t.Errorf("an object in a full table: %v", e)
	}
}

// A symbol whose object has no room is not made.
func TestSymbolRoom(t *testing.T) {
	for _, c := range []struct {
		name  string
		words int
	}{{"NEW", 8}, {"", 7}, {"ABCDEFGH", 8}, {"ABCDEFGHI", 9}, {"INTEGER", 8}} {
		w := tightWorld(t, c.words-1)
		before := w.Symbols().Text()
		if x, e := w.Symbol("COMMON-LISP", c.name); x != 0 || e != api.ErrWords || w.Symbols().Text() != before {
			t.Errorf("Symbol(%s) with %d words: %v", c.name, c.words-1, e)
		}
		if x, e := w.Symbol("COMMON-LISP", "CAR"); x == 0 || e != api.OK {
			t.Errorf("Symbol(CAR) without room: %v", e)
		}
		w = tightWorld(t, c.words)
		if x, e := w.Symbol("COMMON-LISP", c.name); x == 0 || e != api.OK {
			t.Errorf("Symbol(%s) with %d words: %v", c.name, c.words, e)
		}
	}
	// A full table comes ahead of a full heap.
	w := tightWorld(t, 0)
	fill(t, w, 0)
	if _, e := w.Symbol("COMMON-LISP", "ANOTHER"); e != api.ErrFull {
		t.Errorf("a symbol without any room: %v; want ErrFull", e)
	}
}

func TestFieldsOfSymbols(t *testing.T) {
	w := newWorld(t)
	x, k, tr := symbol(t, w, "COMMON-LISP-USER", "X"), symbol(t, w, "KEYWORD", "K"), lisp(t, w, "T")
	bad := heap.Word(7)
	gone := heap.Word(8*60000 + 3)
	rawSymbol := raw(t, w, heap.KindSymbol, "abc")
	short := making(t, w, heap.KindSymbol, fix(0))
	for _, c := range []struct {
		symbol, value heap.Word
		set, fset     api.Errno
	}{
		{x, fix(5), api.OK, api.OK}, {x, heap.Unbound, api.OK, api.OK}, {x, x, api.OK, api.OK}, {x, bad, heap.ErrWord, heap.ErrWord}, {x, gone, heap.ErrWord, heap.ErrWord},
		{k, fix(5), api.ErrArg, api.OK}, {k, heap.Unbound, api.ErrArg, api.ErrArg}, {k, k, api.ErrArg, api.OK}, {k, bad, api.ErrArg, heap.ErrWord},
		{tr, fix(5), api.ErrArg, api.OK}, {tr, heap.Unbound, api.ErrArg, api.ErrArg}, {heap.Nil, heap.Nil, api.ErrArg, api.OK}, {heap.Nil, heap.Unbound, api.ErrArg, api.ErrArg},
		{fix(5), fix(5), lib.ErrNoSymbol, lib.ErrNoSymbol}, {bad, fix(5), lib.ErrNoSymbol, lib.ErrNoSymbol}, {gone, bad, lib.ErrNoSymbol, lib.ErrNoSymbol}, {heap.Unbound, heap.Unbound, lib.ErrNoSymbol, lib.ErrNoSymbol},
		{rawSymbol, fix(5), heap.ErrRaw, heap.ErrRaw}, {short, fix(5), api.ErrRange, api.ErrRange},
	} {
		if e := w.SetValue(c.symbol, c.value); e != c.set {
			t.Errorf("SetValue(%v, %v): %v; want %v", c.symbol, c.value, e, c.set)
		}
		if e := w.SetFunction(c.symbol, c.value); e != c.fset {
			t.Errorf("SetFunction(%v, %v): %v; want %v", c.symbol, c.value, e, c.fset)
		}
		if got, e := w.Value(c.symbol); c.set == api.OK && (e != api.OK || got != c.value) {
			t.Errorf("Value(%v) = %v, %v", c.symbol, got, e)
		}
		if got, e := w.Function(c.symbol); c.fset == api.OK && (e != api.OK || got != c.value) {
			t.Errorf("Function(%v) = %v, %v", c.symbol, got, e)
		}
	}
	for _, c := range []struct {
		x       heap.Word
		e, name api.Errno
	}{{fix(5), lib.ErrNoSymbol, lib.ErrNoSymbol}, {bad, lib.ErrNoSymbol, lib.ErrNoSymbol}, {gone, lib.ErrNoSymbol, lib.ErrNoSymbol}, {rawSymbol, heap.ErrRaw, heap.ErrRaw}, {short, api.ErrRange, api.OK}, {making(t, w, heap.KindCons, fix(0)), lib.ErrNoSymbol, lib.ErrNoSymbol}, {making(t, w, heap.KindSymbol, heap.Nil), api.ErrRange, lib.ErrNoSymbol}, {making(t, w, heap.KindSymbol, fix(100000)), api.ErrRange, lib.ErrNoSymbol}, {making(t, w, heap.KindSymbol, fix(-1)), api.ErrRange, lib.ErrNoSymbol}, {making(t, w, heap.KindSymbol, fix(999)), api.ErrRange, lib.ErrNoSymbol}, {making(t, w, heap.KindSymbol), api.ErrRange, api.ErrRange}} {
		v, e := w.Value(c.x)
		f, e2 := w.Function(c.x)
		home, name, e3 := w.Name(c.x)
		if v != 0 || f != 0 || e != c.e || e2 != c.e || e3 != c.name || e3 != api.OK && home+name != "" {
			t.Errorf("Value, Function and Name of %v: %v, %v, %v; want %v and %v", c.x, e, e2, e3, c.e, c.name)
		}
	}
	// The home of a symbol is that of the table.
	w.Symbols().Unintern("COMMON-LISP-USER", 0)
	n, _, _ := w.Symbols().Find("COMMON-LISP-USER", "X")
	w.Symbols().Unintern("COMMON-LISP-USER", n)
	if home, name, e := w.Name(x); home != "" || name != "X" || e != api.OK {
		t.Errorf("Name of a symbol without a home: %s of %s, %v", name, home, e)
	}
	if again := symbol(t, w, "COMMON-LISP-USER", "X"); again == x {
		t.Error("a symbol that is not there any more was found")
	}
}

func TestExtra(t *testing.T) {
	w := newWorld(t)
	if w.Extra("a") != nil {
		t.Error("something is there in a new world")
	}
	w.SetExtra("a", 5)
	w.SetExtra("b", "x")
	if w.Extra("a") != 5 || w.Extra("b") != "x" || w.Extra("c") != nil {
		t.Errorf("Extra: %v, %v", w.Extra("a"), w.Extra("b"))
	}
	w.SetExtra("a", nil)
	if w.Extra("a") != nil {
		t.Error("what was taken away is there")
	}
}

// Functions that somebody registers.
func TestRegister(t *testing.T) {
	w := newWorld(t)
	answer := func(l []heap.Word) lib.Answer { return lib.Answer{Values: l} }
	long := strings.Repeat("X", api.MaxName+1)
	w.Symbols().Intern("COMMON-LISP-USER", "CLASH")
	w.Symbols().Intern("COMMON-LISP-USER", "SHADOW")
	w.Symbols().Shadow("COMMON-LISP-USER", "SHADOW")
	w.Symbols().Intern("COMMON-LISP", "INNER")
	w.Symbols().Intern("COMMON-LISP-USER", "INNER")
	w.Symbols().Intern("COMMON-LISP", "SOLE")
	w.Symbols().Make("Q", nil, []string{"COMMON-LISP"})
	w.Symbols().Intern("Q", "OTHER")
	for _, c := range []struct {
		name        string
		least, most int
		f           func([]heap.Word) lib.Answer
		e           api.Errno
	}{
		{"CAR", 0, 0, answer, api.ErrTwice}, {"CAR", -1, 0, nil, api.ErrTwice}, {"F", -1, 0, answer, api.ErrArg}, {"F", 0, 0, nil, api.ErrArg}, {long, 0, 0, nil, api.ErrArg}, {long, 0, 0, answer, api.ErrSize}, {"CLASH", 0, 0, answer, symbols.ErrClash}, {"INNER", 0, 0, answer, symbols.ErrClash}, {"OTHER", 0, 0, answer, symbols.ErrClash},
		{"F", 1, 2, answer, api.OK}, {"F", 1, 2, answer, api.ErrTwice}, {"SOLE", 0, 0, answer, api.OK}, {"G", 0, -1, answer, api.OK}, {"INTEGER", 2, 1, answer, api.OK}, {"SHADOW", 1, 1, answer, api.OK}, {"PANIC", 0, 0, func([]heap.Word) lib.Answer { panic("lost") }, api.OK}, {"FAULT", 0, 0, func([]heap.Word) lib.Answer {
			return lib.Answer{Kind: lib.AnswerFault, Fault: lib.Fault{Type: "MY-ERROR", Data: []heap.Word{fix(5)}}}
		}, api.OK}, {"AGAIN", 1, 1, func(l []heap.Word) lib.Answer { return w.Call(l[0], nil) }, api.OK},
	} {
		before := w.Symbols().Text()
		if e := w.Register(c.name, c.least, c.most, c.f); e != c.e || e != api.OK && w.Symbols().Text() != before {
			t.Errorf("Register(%s): %v; want %v", c.name, e, c.e)
		}
	}
	check(t, w, []row{
		{"(f 1)", "1"}, {"(f 1 2)", "1 2"}, {"(f)", "! PROGRAM-ERROR f"}, {"(f 1 2 3)", "! PROGRAM-ERROR f"}, {"(g)", ""}, {"(g 1 2 3)", "1 2 3"}, {"(integer 1 2)", "! PROGRAM-ERROR integer"}, {"(integer 1)", "! PROGRAM-ERROR integer"}, {"(common-lisp::shadow 1)", "1"}, {"(funcall f 1)", "1"}, {"(apply f (1 2))", "1 2"}, {"(panic)", "limit 1"}, {"(fault)", "! MY-ERROR 5"}, {"(again car)", "! PROGRAM-ERROR car"}, {"(again nope)", "! UNDEFINED-FUNCTION nope"}, {"(again g)", ""},
	})
	if _, status, _ := w.Symbols().Find("COMMON-LISP", "G"); status != symbols.External {
		t.Errorf("a registered function's symbol has the status %d", status)
	}
	for i, name := range []string{"F", "SOLE", "G", "INTEGER"} {
		f, _ := w.Function(lisp(t, w, name))
		if index, _ := w.Heap().Get(f, 0); index != fix(int64(len(lib.Names())+i)) {
			t.Errorf("the index of %s is %v", name, index)
		}
	}
	if _, _, e := lib.Arity("F"); e != api.ErrNone {
		t.Errorf("Arity of a registered function: %v", e)
	}
	// Arguments are not those of the caller.
	args := []heap.Word{fix(1)}
	w.Register("CHANGE", 1, 1, func(l []heap.Word) lib.Answer {
		l[0] = fix(9)
		return lib.Answer{Values: l}
	})
	w.Call(lisp(t, w, "CHANGE"), args)
	if args[0] != fix(1) {
		t.Error("an argument was changed")
	}
	// Room for the symbol and for the function.
	for words, want := range map[int]api.Errno{9: api.ErrWords, 10: api.OK} {
		w := tightWorld(t, words)
		before := w.Symbols().Text()
		if e := w.Register("NEW", 0, 0, answer); e != want || e != api.OK && w.Symbols().Text() != before {
			t.Errorf("Register with %d words: %v; want %v", words, e, want)
		}
	}
}

// What is bad, and what is no function.
func TestCall(t *testing.T) {
	w := newWorld(t)
	car := lisp(t, w, "CAR")
	gone := heap.Word(8*60000 + 3)
	for _, c := range []struct {
		f    heap.Word
		args []heap.Word
		want string
	}{
		{heap.Word(7), nil, "limit 170"}, {gone, nil, "limit 170"}, {car, []heap.Word{7}, "limit 170"}, {car, []heap.Word{fix(1), fix(2), gone}, "limit 170"}, {fix(5), []heap.Word{7}, "limit 170"},
		{fix(5), nil, "! TYPE-ERROR 5 function"}, {heap.Unbound, nil, "! TYPE-ERROR %::unbound function"}, {making(t, w, heap.KindBuiltin, fix(-1)), nil, "! TYPE-ERROR %::builtin function"}, {making(t, w, heap.KindBuiltin, fix(100000)), nil, "! TYPE-ERROR %::builtin function"}, {making(t, w, heap.KindBuiltin), nil, "! TYPE-ERROR %::builtin function"}, {making(t, w, heap.KindBuiltin, heap.Nil), []heap.Word{fix(1), fix(2)}, "! TYPE-ERROR %::builtin function"}, {making(t, w, heap.KindBuiltin, fix(int64(len(lib.Names())))), nil, "! TYPE-ERROR %::builtin function"}, {raw(t, w, heap.KindBuiltin, "a"), nil, "! TYPE-ERROR %::builtin function"}, {making(t, w, heap.KindBuiltin, fix(1)), []heap.Word{heap.Nil}, "nil"},
		{making(t, w, heap.KindClosure), []heap.Word{heap.Unbound}, "> %::closure %::unbound"}, {making(t, w, heap.KindCode, fix(1)), nil, "> %::closure"},
		{car, []heap.Word{heap.Unbound}, "! TYPE-ERROR %::unbound list"},
	} {
		if got := told(w, w.Call(c.f, c.args)); got != c.want {
			t.Errorf("Call(%v, %v) is %s; want %s", c.f, c.args, got, c.want)
		}
	}
}

// Of a nil world there is nothing.
func TestNilWorld(t *testing.T) {
	var w *lib.World
	x, e1 := w.Symbol("COMMON-LISP", "CAR")
	home, name, e2 := w.Name(heap.Nil)
	v, e3 := w.Value(heap.Nil)
	f, e4 := w.Function(heap.Nil)
	b, e5 := w.Build(api.Form{})
	s, e6 := w.Show(heap.Nil)
	for i, e := range []api.Errno{e1, e2, e3, e4, e5, e6, w.SetValue(7, 7), w.SetFunction(7, 7), w.Print(""), w.Register("CAR", 0, 0, nil)} {
		if e != api.ErrArg {
			t.Errorf("function %d of a nil world: %v; want ErrArg", i, e)
		}
	}
	if x != 0 || home+name != "" || v != 0 || f != 0 || b != 0 || s.Kind != 0 || w.Heap() != nil || w.Symbols() != nil || w.Output() != "" || w.Extra("x") != nil {
		t.Error("a nil world has something")
	}
	w.SetExtra("x", 1)
	if p := w.Parts(); p.Table+p.Output != "" || p.Counter != 0 || p.Numbers != nil || p.Words != nil {
		t.Errorf("a nil world has the parts %v", p)
	}
	if a := w.Call(7, []heap.Word{7}); a.Kind != lib.AnswerLimit || a.Code != api.ErrArg {
		t.Errorf("Call of a nil world: %s", strconv.Itoa(a.Kind))
	}
}
