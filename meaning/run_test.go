package meaning_test

import (
	"reflect"
	"strings"
	"testing"

	"commonform/api"
	"commonform/core"
	"commonform/heap"
	"commonform/lib"
	"commonform/meaning"
)

// Each node that is begun is a step, and each call.
func TestSteps(t *testing.T) {
	for _, c := range []struct {
		text  string
		steps int
	}{
		{"(const #1)", 1}, {"(progn)", 1}, {"(progn (const #1) (const #2))", 3}, {"(if (const 'NIL) (const #1) (const #2))", 3}, {"(let [0] (const #1) (var 0))", 3}, {"(let [] (const #1))", 2}, {"(callglobal 'CAR (const 'NIL))", 3}, {"(callglobal 'LIST)", 2}, {"(call (function 'LIST))", 3}, {"(call (lambda 0 (const #1)))", 4}, {"(call (lambda 0 {2 0 -1 -} (const #1) (var 0)))", 5}, {"(call (lambda 0 {2 0 -1 -} (const #1) (var 0)) (const #2))", 5},
		{"(callglobal 'FUNCALL (function 'CAR) (const 'NIL))", 4}, {"(callglobal 'FUNCALL (lambda 0 (const #1)))", 5}, {"(labels [0] (lambda 0 (const #1)) (call (var 0)))", 6}, {"(block 0 (return 0 (const #1)))", 3}, {"(tagbody [0] (go 0) (const #1))", 3}, {"(catch (const #1) (throw (const #1) (const #2)))", 5}, {"(protect (const #1) (const #2))", 3}, {"(valuescall (function 'LIST) (const #1) (const #2))", 5}, {"(valuesfirst (const #1) (const #2))", 3}, {"(bind ['SP] (const #1) (special 'SP))", 3}, {"(progv (const 'NIL) (const 'NIL) (const #1))", 4}, {"(setspecial 'SP (const #1))", 2}, {"(callglobal 'NOPE (const #1))", 2}, {"(call (const #5))", 3},
	} {
		w := newWorld(t)
		end, steps := meaning.Run(w, tree(t, c.text), api.MaxSteps)
		if steps != c.steps {
			t.Errorf("%s takes %d steps, and is %s; want %d", c.text, steps, told(w, end), c.steps)
		}
	}
}

// programs are forms that end in all sorts of ways.
func programs() []string {
	return []string{
		"(let ((x 1)) (flet ((f (y) (+ x y))) (list (f 1) (f 2))))", "(block a (unwind-protect (return-from a (note 1)) (note 2)))", "(catch 'x (let ((sp 1)) (throw 'x (values sp 2))))", "(let ((i 0)) (tagbody a (setq i (+ i 1)) (if (< i 5) (go a))) i)", "(car 5)", "(unwind-protect (car 5) (note 3))", "(labels ((f (n) (if (= n 0) 0 (+ n (f (- n 1)))))) (f 6))", "((lambda (&optional (x (note 1)) &key (k 2) &allow-other-keys) (list x k)) 5 :z 1)", "(multiple-value-call #'list (floor 7 2) (funcall #'(lambda () 9)))", "(multiple-value-prog1 (note 1) (note 2))", "(progv '(sp) '(1) (note sp))", "(throw 'nowhere 1)", "(nope)", "(apply #'(lambda (&rest l) l) 1 2 '(3))",
	}
}

// P21.4: with fewer steps a run ends with ErrSteps, with more it ends alike. P21.2: renamed trees run alike.
func TestStepLimits(t *testing.T) {
	for _, s := range programs() {
		c := convert(t, s)
		w := noting(t)
		end, steps := meaning.Run(w, c, api.MaxSteps)
		want, output := told(w, end), w.Output()
		for _, limit := range []int{steps, steps + 1, 2 * steps, 1 << 40} {
			w := noting(t)
			if end, n := meaning.Run(w, c, limit); told(w, end) != want || n != steps || w.Output() != output {
				t.Errorf("%s with %d steps is %s, and takes %d; want %s and %d", s, limit, told(w, end), n, want, steps)
			}
		}
		for limit := -1; limit < steps; limit++ {
			w := noting(t)
			end, n := meaning.Run(w, c, limit)
			if !reflect.DeepEqual(end, lib.End{Kind: lib.EndLimit, Code: api.ErrSteps}) || n != max(limit, 0) || !strings.HasPrefix(output, w.Output()) {
				t.Errorf("%s with %d steps is %s, and takes %d", s, limit, told(w, end), n)
			}
		}
		other, e := core.Renamed(c, 77)
		w = noting(t)
		if end, n := meaning.Run(w, other, api.MaxSteps); e != api.OK || told(w, end) != want || n != steps || w.Output() != output {
			t.Errorf("%s renamed is %s; want %s", s, told(w, end), want)
		}
	}
	// A run without end.
	w := newWorld(t)
	end, n := meaning.Run(w, convert(t, "(tagbody a (go a))"), api.MaxSteps+5)
	if end.Kind != lib.EndLimit || end.Code != api.ErrSteps || n != api.MaxSteps {
		t.Errorf("a loop: %s, %d steps", told(w, end), n)
	}
}

// What is wrong ahead of a run, or met in it.
func TestBad(t *testing.T) {
	w := noting(t)
	free := api.Core{Op: api.CoreVar}
	deep := api.Core{Op: api.CoreProgn}
	for range api.MaxDepth {
		deep = api.Core{Op: api.CoreProgn, Kids: []api.Core{deep}}
	}
	for _, c := range []struct {
		w *lib.World
		c api.Core
		e api.Errno
	}{{w, free, api.ErrForm}, {w, api.Core{}, api.ErrForm}, {w, deep, api.ErrSize}, {nil, free, api.ErrForm}, {nil, deep, api.ErrSize}, {nil, api.Core{Op: api.CoreProgn}, api.ErrArg}} {
		if end, n := meaning.Run(c.w, c.c, 100); !reflect.DeepEqual(end, lib.End{Kind: lib.EndBad, Code: c.e}) || n != 0 {
			t.Errorf("Run: %v, %d; want %v", end, n, c.e)
		}
	}
	long := strings.Repeat("X", api.MaxName+1)
	for _, c := range []struct {
		text, want string
		output     string
	}{
		{"(special 1:NOPE:X)", "bad 5", ""}, {"(setspecial 1:NOPE:X (callglobal 'NOTE (const #1)))", "bad 5", "1 "}, {"(function 1:NOPE:X)", "bad 5", ""}, {"(callglobal 1:NOPE:X (callglobal 'NOTE (const #1)))", "bad 5", "1 "}, {"(const 1:NOPE:X)", "bad 5", ""}, {"(const 1::" + long + ")", "bad 4", ""}, {"(special 'X" + long + ")", "bad 4", ""}, {"(bind [1:NOPE:X] (callglobal 'NOTE (const #1)) (const #2))", "bad 5", "1 "}, {"(if (const 'NIL) (special 1:NOPE:X) (const #1))", "1", ""}, {"(protect (special 1:NOPE:X) (callglobal 'NOTE (const #1)))", "bad 5", ""}, {"(lambda 0 (special 1:NOPE:X))", "%::closure", ""},
	} {
		w := noting(t)
		end, _ := meaning.Run(w, tree(t, c.text), 100)
		if told(w, end) != c.want || w.Output() != c.output {
			t.Errorf("%s is %s | %s; want %s | %s", c.text, told(w, end), w.Output(), c.want, c.output)
		}
	}
	// A table without room for a symbol.
	for n := 0; ; n++ {
		if _, _, e := w.Symbols().Intern("COMMON-LISP-USER", "FILL"+number(n)); e != api.OK {
			break
		}
	}
	if got := run(t, w, "(unwind-protect some-new-symbol (note 1))"); got != "bad 9" {
		t.Errorf("a symbol of a full table: %s", got)
	}
}

// Depth and words.
func TestLimits(t *testing.T) {
	for _, c := range []struct{ form, want string }{
		{"(labels ((f () (list (f)))) (unwind-protect (f) (note 1)))", "limit 12"},
		{"(let (f) (setq f #'(lambda (n) (if (= n 0) 'done (funcall f (- n 1))))) (funcall f 5000))", "done"},
		{"(labels ((f (n) (if (= n 0) 'done (f (- n 1))))) (f 5000))", "limit 12"},
		{"(labels ((f (n) (if (= n 0) nil (list (f (- n 1)))))) (progn (f 600) 'done))", "done"},
		{"(let (f) (setq f #'(lambda (n) (if (= n 0) nil (list (funcall f (- n 1)))))) (progn (funcall f 1997) 'done))", "done"},
		{"(let (f) (setq f #'(lambda (n) (if (= n 0) nil (list (funcall f (- n 1)))))) (progn (funcall f 1998) 'done))", "limit 12"},
		{"(let ((l nil)) (unwind-protect (tagbody a (setq l (list l l l l l l l l)) (go a)) (note 1)))", "limit 11"},
		{"(let ((l nil)) (tagbody a (setq l (make-array 16000)) (go a)))", "limit 11"},
		{"(unwind-protect (tagbody a (prin1 \"many letters\") (go a)) (note 1))", "limit 14"},
		{"(let ((l nil)) (tagbody a (setq l #'(lambda () l)) (go a)))", "limit 11"},
		{"(let ((sp 5)) (tagbody a (setq sp (make-array 16000)) (go a)))", "limit 11"},
	} {
		w := noting(t)
		if got := run(t, w, c.form); got != c.want || strings.HasSuffix(w.Output(), "1 ") {
			t.Errorf("%s is %s | %.20s; want %s", c.form, got, w.Output(), c.want)
		}
	}
	// No symbol gets back what it had.
	w := newWorld(t)
	sp := symbol(t, w, "SP")
	w.SetValue(sp, fix(1))
	if got := run(t, w, "(let ((sp 2)) (labels ((f () (list (f)))) (f)))"); got != "limit 12" {
		t.Fatal(got)
	}
	if v, _ := w.Value(sp); v != fix(2) {
		t.Errorf("behind a limit the value is %v", v)
	}
	// A world in which a closure has no room.
	tight, _ := lib.New(newWorld(t).Heap().Used()+18, 10)
	end, _ := meaning.Run(tight, convert(t, "(let ((x 1) (y 2)) #'(lambda () (list x y)))"), 100)
	if end.Kind != lib.EndLimit || end.Code != api.ErrWords {
		t.Errorf("a closure without room: %s", told(tight, end))
	}
}

// Constants are one object in a run, and another one in the next run.
func TestConstants(t *testing.T) {
	w := newWorld(t)
	if got := run(t, w, "(flet ((f () '(1))) (eq (f) (f)))"); got != "t" {
		t.Errorf("a constant of a run is twice the same: %s", got)
	}
	if got := run(t, w, "(eq '(1) '(1))"); got != "nil" {
		t.Errorf("two constants are the same: %s", got)
	}
	f := value(t, w, "(progn (%fset 'f #'(lambda () '(1))) #'f)")
	a, _ := meaning.Apply(w, f, nil, 100)
	b, _ := meaning.Apply(w, f, nil, 100)
	if a.Values[0] == b.Values[0] {
		t.Error("two runs have one constant")
	}
	// A run that is a part of another one has its constants.
	w.Register("INNER", 1, 1, func(l []heap.Word) lib.Answer {
		end, _ := meaning.Apply(w, l[0], nil, 100)
		return lib.Answer{Values: end.Values}
	})
	if got := run(t, w, "(eq (inner #'f) (inner #'f))"); got != "t" {
		t.Errorf("two parts of a run have one constant: %s", got)
	}
	if got := run(t, w, "(eq (f) (inner #'f))"); got != "t" {
		t.Errorf("a run and its part have one constant: %s", got)
	}
	if got := run(t, w, "(progn (%fset 'g #'(lambda () '#:x)) (eq (g) (g)))"); got != "t" {
		t.Errorf("a symbol without a home is one object of a run: %s", got)
	}
	if got := run(t, w, "(list (rplaca '(1 2) 3))"); got != "((3 2))" {
		t.Errorf("a constant is changed: %s", got)
	}
}

// The object of a closure, and its lambda.
func TestClosures(t *testing.T) {
	w := newWorld(t)
	c := tree(t, "(let [4 5] (const #1) (const #2) (let [6] (const #3) (lambda 1 {1 7 -1 -} {4 8 9 :K} (const 8::abc) (callglobal 'LIST (var 4) (var 6) (var 7)))))")
	end, _ := meaning.Run(w, c, 100)
	x := end.Values[0]
	h := w.Heap()
	if h.Kind(x) != heap.KindClosure || h.Len(x) != 2 {
		t.Fatalf("a closure has the kind %d and %d fields", h.Kind(x), h.Len(x))
	}
	index, _ := h.Get(x, 0)
	if _, ok := index.Fixnum(); !ok {
		t.Errorf("its first field is %v", index)
	}
	values := map[int64]heap.Word{}
	l, _ := h.Get(x, 1)
	for h.Kind(l) == heap.KindCons {
		entry, _ := h.Get(l, 0)
		variable, _ := h.Get(entry, 0)
		cell, _ := h.Get(entry, 1)
		n, ok := variable.Fixnum()
		if !ok || h.Kind(entry) != heap.KindCons || h.Kind(cell) != heap.KindBox || h.Len(cell) != 1 {
			t.Fatalf("an entry of the environment: %v and %v", variable, cell)
		}
		if _, met := values[n]; !met {
			values[n], _ = h.Get(cell, 0)
		}
		l, _ = h.Get(l, 1)
	}
	if l != heap.Nil || values[4] != fix(1) || values[5] != fix(2) || values[6] != fix(3) {
		t.Errorf("the environment has %v", values)
	}
	want := c.Kids[2].Kids[1]
	got, e := meaning.Closure(w, x)
	if e != api.OK || !reflect.DeepEqual(got, want) {
		t.Errorf("Closure = %+v, %v", got, e)
	}
	// Neither the tree nor the result is what the closure has.
	c.Kids[2].Kids[1].Kids[0].Data.Text = "changed"
	got.Kids[1].Kids[0].N = 5
	got.Pars[0].Var = 99
	if again, _ := meaning.Closure(w, x); again.Kids[0].Data.Text != "abc" || again.Kids[1].Kids[0].N != 4 || again.Pars[0].Var != 7 {
		t.Errorf("Closure has become %+v", again)
	}
	if end, _ := meaning.Apply(w, x, []heap.Word{fix(7)}, 100); told(w, end) != "(1 3 7)" {
		t.Errorf("the closure is %s", told(w, end))
	}
	// Each closure has its own cells; those of one scope are shared.
	if got := run(t, w, "(let ((x 1)) (let ((f #'(lambda () x)) (g #'(lambda (y) (setq x y)))) (funcall g 5) (funcall f)))"); got != "5" {
		t.Errorf("two closures of one scope: %s", got)
	}
	fresh := newWorld(t)
	only := value(t, fresh, "#'(lambda ())")
	if i, _ := fresh.Heap().Get(only, 0); i.IsRef() {
		t.Error("an index is no number")
	} else if n, _ := i.Fixnum(); true {
		fresh.Heap().Set(only, 0, fix(int(n)+1))
	}
	if _, e := meaning.Closure(fresh, only); e != api.ErrType {
		t.Errorf("Closure of the next index: %v", e)
	}
	fake, _ := h.New(heap.KindClosure, 2)
	far, _ := h.New(heap.KindClosure, 2)
	h.Set(far, 0, fix(100000))
	low, _ := h.New(heap.KindClosure, 2)
	h.Set(low, 0, fix(-1))
	short, _ := h.New(heap.KindClosure, 1)
	bytes, _ := h.Raw(heap.KindClosure, "ab")
	code, _ := h.New(heap.KindCode, 2)
	h.Set(code, 0, fix(0))
	for i, y := range []heap.Word{fix(5), heap.Nil, heap.Word(7), heap.Unbound, fake, far, low, short, bytes, code, symbol(t, w, "CAR")} {
		if c, e := meaning.Closure(w, y); e != api.ErrType || c.Op != 0 {
			t.Errorf("%d: Closure: %v; want ErrType", i, e)
		}
	}
	for i, y := range []heap.Word{fake, far, low, short, bytes} {
		if end, _ := meaning.Apply(w, y, nil, 100); told(w, end) != "! CONTROL-ERROR %::closure" {
			t.Errorf("%d: Apply of no closure: %s", i, told(w, end))
		}
	}
	if c, e := meaning.Closure(nil, x); e != api.ErrType || c.Op != 0 {
		t.Errorf("Closure of a nil world: %v", e)
	}
	if c, e := meaning.Closure(newWorld(t), x); e != api.ErrType || c.Op != 0 {
		t.Errorf("Closure of a new world: %v", e)
	}
	// An environment that somebody has changed.
	h.Set(x, 1, heap.Nil)
	if end, _ := meaning.Apply(w, x, []heap.Word{fix(7)}, 100); end.Kind != lib.EndBad {
		t.Errorf("a closure without its environment: %s", told(w, end))
	}
}

// Blocks and tagbodies have cells in an environment, too.
func TestExitCells(t *testing.T) {
	w := newWorld(t)
	h := w.Heap()
	x := value(t, w, "(let ((x 1)) (block a (tagbody b (return-from a #'(lambda () (if x (go b) (return-from a 1)))))))")
	l, _ := h.Get(x, 1)
	entries := 0
	for ; h.Kind(l) == heap.KindCons; entries++ {
		entry, _ := h.Get(l, 0)
		key, _ := h.Get(entry, 0)
		cell, _ := h.Get(entry, 1)
		if _, ok := key.Fixnum(); !ok || h.Kind(cell) != heap.KindBox {
			t.Errorf("an entry with %v and %v", key, cell)
		}
		l, _ = h.Get(l, 1)
	}
	if entries != 3 {
		t.Errorf("%d entries", entries)
	}
}

// What becomes of a tree behind a run changes nothing of its closures.
func TestTreeMemory(t *testing.T) {
	w := newWorld(t)
	c := tree(t, "(lambda 0 {1 1 -1 -} (let [2] (var 1) (bind ['SP] (const #5) (labels [3] (lambda 0 (special 'SP)) (callglobal 'LIST (var 2) (call (var 3)) (const 10::(#7 11::(#8) 'NIL)))))))")
	end, _ := meaning.Run(w, c, 100)
	want, _ := core.Show(c)
	let := &c.Kids[0]
	bind := &let.Kids[1]
	labels := &bind.Kids[1]
	list := &labels.Kids[1]
	c.Pars[0].Var, let.Vars[0], labels.Vars[0] = 70, 71, 72
	bind.Syms[0].Text = "SQ"
	list.Data.Text = "VECTOR"
	list.Kids[2].Data.Kids[0].Text = "9"
	list.Kids[2].Data.Kids[1].Kids[0].Text = "9"
	labels.Kids[0].Kids[0] = api.Core{Op: api.CoreProgn}
	if got, _ := meaning.Apply(w, end.Values[0], []heap.Word{fix(1)}, 100); told(w, got) != "(1 5 (7 #(8)))" {
		t.Errorf("the closure is %s", told(w, got))
	}
	again, _ := meaning.Closure(w, end.Values[0])
	if text, _ := core.Show(again); text != want {
		t.Errorf("Closure is %s; want %s", text, want)
	}
	again.Kids[0].Kids[1].Kids[1].Kids[1].Kids[2].Data.Kids[1].Kids[0].Text = "9"
	again.Kids[0].Kids[1].Syms[0].Text = "SQ"
	again.Kids[0].Vars[0] = 70
	last, _ := meaning.Closure(w, end.Values[0])
	if text, _ := core.Show(last); text != want {
		t.Errorf("Closure is %s; want %s", text, want)
	}
}

func TestApply(t *testing.T) {
	w := noting(t)
	f := value(t, w, "#'(lambda (x &optional (y (note 5))) (values x y))")
	letter, _ := heap.Char('a')
	for _, c := range []struct {
		f     heap.Word
		args  []heap.Word
		want  string
		steps int
	}{
		{f, []heap.Word{fix(1)}, "1 5", 8}, {f, []heap.Word{fix(1), fix(2)}, "1 2", 5}, {f, nil, "! PROGRAM-ERROR %::closure", 1}, {symbol(t, w, "LIST"), []heap.Word{fix(1), fix(2)}, "(1 2)", 1}, {symbol(t, w, "NOPE"), nil, "! UNDEFINED-FUNCTION nope", 1}, {fix(5), nil, "! TYPE-ERROR 5 function", 1}, {symbol(t, w, "CAR"), []heap.Word{fix(1)}, "! TYPE-ERROR 1 list", 1}, {symbol(t, w, "VALUES"), nil, "", 1}, {symbol(t, w, "FUNCALL"), []heap.Word{f, fix(1), fix(2)}, "1 2", 6},
		{symbol(t, w, "LIST"), []heap.Word{heap.Nil, letter, heap.Unbound}, "(nil #\\a %::unbound)", 1}, {heap.Nil, nil, "! UNDEFINED-FUNCTION nil", 1}, {letter, nil, "! TYPE-ERROR #\\a function", 1},
		{heap.Word(7), nil, "bad 170", 0}, {f, []heap.Word{fix(1), 7}, "bad 170", 0}, {heap.Word(8*60000 + 3), []heap.Word{7}, "bad 170", 0},
	} {
		end, steps := meaning.Apply(w, c.f, c.args, 1000)
		if told(w, end) != c.want || steps != c.steps {
			t.Errorf("Apply(%v, %v) is %s with %d steps; want %s with %d", c.f, c.args, told(w, end), steps, c.want, c.steps)
		}
	}
	if end, n := meaning.Apply(nil, f, nil, 100); end.Kind != lib.EndBad || end.Code != api.ErrArg || n != 0 {
		t.Errorf("Apply of a nil world: %v", end)
	}
	if end, n := meaning.Apply(w, f, []heap.Word{fix(1)}, 0); end.Kind != lib.EndLimit || end.Code != api.ErrSteps || n != 0 {
		t.Errorf("Apply without steps: %v", end)
	}
	w.SetFunction(symbol(t, w, "F"), f)
	if end, n := meaning.Apply(w, symbol(t, w, "F"), []heap.Word{fix(1), fix(2)}, 100); told(w, end) != "1 2" || n != 6 {
		t.Errorf("Apply of a symbol with a closure: %s, %d", told(w, end), n)
	}
	// Arguments and values are new memory.
	args := []heap.Word{fix(1), fix(2)}
	w.Register("KEEP", 1, -1, func(l []heap.Word) lib.Answer { return lib.Answer{Values: args} })
	end, _ := meaning.Apply(w, symbol(t, w, "KEEP"), args, 100)
	end.Values[0] = fix(9)
	if args[0] != fix(1) {
		t.Error("the values are memory of somebody else")
	}
	w.Register("STRANGE", 0, 0, func(l []heap.Word) lib.Answer { return lib.Answer{Kind: 77} })
	if end, _ := meaning.Apply(w, symbol(t, w, "STRANGE"), nil, 100); end.Kind != lib.EndBad {
		t.Errorf("an answer of another kind: %s", told(w, end))
	}
	w.Register("LOOP", 0, 0, func(l []heap.Word) lib.Answer {
		return lib.Answer{Kind: lib.AnswerNext, Function: symbol(t, w, "LOOP")}
	})
	if end, n := meaning.Apply(w, symbol(t, w, "LOOP"), nil, 1000); end.Kind != lib.EndLimit || end.Code != api.ErrSteps || n != 1000 {
		t.Errorf("a function that answers itself: %s, %d", told(w, end), n)
	}
	w.Register("LIMITED", 0, 0, func(l []heap.Word) lib.Answer {
		return lib.Answer{Kind: lib.AnswerLimit, Code: api.ErrLarge}
	})
	if got := run(t, w, "(unwind-protect (limited) (note 1))"); got != "limit 14" {
		t.Errorf("a limit of a function: %s", got)
	}
}

// Compiled code is called by what the world has for it.
func TestCode(t *testing.T) {
	w := noting(t)
	code, _ := w.Heap().New(heap.KindCode, 0)
	w.SetFunction(symbol(t, w, "CODE"), code)
	if got := run(t, w, "(code 1)"); got != "! CONTROL-ERROR %::closure" {
		t.Errorf("code without a machine: %s", got)
	}
	w.SetExtra("apply", 5)
	if got := run(t, w, "(code 1)"); got != "! CONTROL-ERROR %::closure" {
		t.Errorf("code with another thing than a machine: %s", got)
	}
	var answer lib.End
	took, left := 0, 0
	w.SetExtra("apply", func(f heap.Word, args []heap.Word, steps int) (lib.End, int) {
		left = steps
		if f != code || len(args) != 1 || args[0] != fix(1) {
			t.Errorf("the machine gets %v and %v", f, args)
		}
		return answer, took
	})
	c := convert(t, "(unwind-protect (code 1) (note 2))")
	for i, x := range []struct {
		answer      lib.End
		took, steps int
		want        string
		output      string
	}{
		{lib.End{Values: []heap.Word{fix(1), fix(2)}}, 10, 17, "1 2", "2 "},
		{lib.End{Kind: lib.EndFault, Fault: lib.Fault{Type: "MINE", Data: []heap.Word{fix(3)}}}, 0, 7, "! MINE 3", "2 "},
		{lib.End{Kind: lib.EndLimit, Code: api.ErrDepth}, 5, 9, "limit 12", ""},
		{lib.End{Kind: lib.EndLimit, Code: meaning.ErrCross}, 5, 9, "limit 230", ""},
		{lib.End{Kind: lib.EndBad, Code: api.ErrNone}, -5, 4, "bad 5", ""},
		{lib.End{Kind: lib.EndLimit, Code: api.ErrSteps}, 1 << 40, 100, "limit 10", ""},
		{lib.End{Values: nil}, 96, 100, "limit 10", ""},
	} {
		answer, took = x.answer, x.took
		before := w.Output()
		end, steps := meaning.Run(w, c, 100)
		if told(w, end) != x.want || steps != x.steps || w.Output() != before+x.output || left != 96 {
			t.Errorf("%d: %s with %d steps, %q, %d left; want %s with %d", i, told(w, end), steps, w.Output(), left, x.want, x.steps)
		}
	}
	// The fault was handled there: %FAULT is not called again.
	run(t, w, "(%fset '%fault #'(lambda (a b) (note a)))")
	answer, took = lib.End{Kind: lib.EndFault, Fault: lib.Fault{Type: "MINE"}}, 0
	before := w.Output()
	if got := run(t, w, "(code 1)"); got != "! MINE" || w.Output() != before {
		t.Errorf("a fault of code: %s, %q", got, w.Output()[len(before):])
	}
	var none func(heap.Word, []heap.Word, int) (lib.End, int)
	w.SetFunction(symbol(t, w, "%FAULT"), heap.Unbound)
	w.SetExtra("apply", none)
	if got := run(t, w, "(code 1)"); got != "! CONTROL-ERROR %::closure" {
		t.Errorf("code with a nil machine: %s", got)
	}
}

// Exits do not lead out of a run that is a part of another one.
func TestCross(t *testing.T) {
	for _, c := range []row{
		{"(inner #'(lambda () (block a (return-from a 1))))", "1"},
		{"(block a (inner #'(lambda () (return-from a 1))))", "limit 230"},
		{"(tagbody (inner #'(lambda () (go a))) a)", "limit 230"},
		{"(catch 'x (inner #'(lambda () (throw 'x 1))))", "limit 230"},
		{"(inner #'(lambda () (throw 'x 1)))", "limit 230"},
		{"(inner #'(lambda () (catch 'x (throw 'x 1))))", "1"},
		{"(inner #'(lambda () (unwind-protect (throw 'x 1) (note 1))))", "limit 230"},
		{"(unwind-protect (inner #'(lambda () (throw 'x 1))) (note 1))", "limit 230"},
		{"(inner #'(lambda () (funcall (block a #'(lambda () (return-from a 1))))))", "! CONTROL-ERROR"},
		{"(let ((f (block a #'(lambda () (return-from a 1))))) (inner f))", "limit 230"},
		{"(let ((f (inner #'(lambda () (block a #'(lambda () (return-from a 1))))))) (funcall f))", "! CONTROL-ERROR"},
		{"(inner #'(lambda () (inner #'(lambda () (throw 'x 1)))))", "limit 230"},
		{"(inner #'(lambda () (car 1)))", "! TYPE-ERROR 1 list"},
		{"(labels ((f () (inner #'f))) (f))", "limit 12"},
	} {
		w := noting(t)
		w.Register("INNER", 1, 1, func(l []heap.Word) lib.Answer {
			end, _ := meaning.Apply(w, l[0], nil, 1000)
			switch end.Kind {
			case lib.EndValues:
				return lib.Answer{Values: end.Values}
			case lib.EndFault:
				return lib.Answer{Kind: lib.AnswerFault, Fault: end.Fault}
			}
			return lib.Answer{Kind: lib.AnswerLimit, Code: end.Code}
		})
		if got := run(t, w, c.form); got != c.want || w.Output() != "" {
			t.Errorf("%s is %s | %s; want %s", c.form, got, w.Output(), c.want)
		}
		// Behind it no run is going on.
		if got := run(t, w, "(throw 'x 1)"); got != "! CONTROL-ERROR x" {
			t.Errorf("behind %s: %s", c.form, got)
		}
	}
}

// The function of %FAULT is called where a fault happened.
func TestFaults(t *testing.T) {
	for _, c := range []struct{ handler, form, want string }{
		{"#'(lambda (type data) (note (list type data)))", "(car 1)", "! TYPE-ERROR 1 list | (type-error (1 list)) "},
		{"#'(lambda (type data) (throw 'handled (values type data)))", "(catch 'handled (car 1))", "type-error (1 list)"},
		{"#'(lambda (type data) (throw 'handled type))", "(catch 'handled (unwind-protect (nope) (note 1)))", "undefined-function | 1 "},
		{"#'(lambda (type data) (note sp) (throw 'handled 1))", "(progn (setq sp 0) (catch 'handled (let ((sp 5)) (/ 1 0))) sp)", "0 | 5 "},
		{"#'(lambda (type data) (note data))", "(unwind-protect (/ 1 0) (note 2))", "! DIVISION-BY-ZERO | nil 2 "},
		{"#'(lambda (type data) nowhere)", "(car 1)", "limit 12"},
		{"#'(lambda (type data) (if (eq type 'type-error) nowhere (note type)))", "(unwind-protect (car 1) (note 2))", "! UNBOUND-VARIABLE nowhere | unbound-variable 2 "},
		{"#'(lambda (type) 1)", "(car 1)", "limit 12"},
		{"#'car", "(car 1)", "limit 12"},
		{"#'list", "(car 1)", "! TYPE-ERROR 1 list"},
		{"#'(lambda (type data) (note type))", "(throw 'x 1)", "! CONTROL-ERROR x | control-error "},
		{"#'(lambda (type data) (note type))", "(unwind-protect (car 1) (cdr 2))", "! TYPE-ERROR 2 list | type-error type-error "},
		{"#'(lambda (type data) (note type))", "(block a (unwind-protect (car 1) (return-from a 5)))", "5 | type-error "},
		{"#'(lambda (type data) (throw 'out 1))", "(list (catch 'out (nope)) (catch 'out nowhere) (catch 'out (throw 'none 1)) (catch 'out ((lambda (x) x))) (catch 'out (funcall 5)))", "(1 1 1 1 1)"},
	} {
		w := noting(t)
		if got := run(t, w, "(progn (%fset '%fault "+c.handler+") 1)"); got != "1" {
			t.Fatal(got)
		}
		got := run(t, w, c.form)
		if w.Output() != "" {
			got += " | " + w.Output()
		}
		if got != c.want {
			t.Errorf("with %s %s is %s; want %s", c.handler, c.form, got, c.want)
		}
	}
	// What is no function is not called, and no symbol is made.
	w := newWorld(t)
	run(t, w, "(car 1)")
	if _, status, _ := w.Symbols().Find("COMMON-LISP", "%FAULT"); status != 0 {
		t.Error("the symbol of faults has been interned")
	}
	w.SetFunction(symbol(t, w, "%FAULT"), fix(5))
	if got := run(t, w, "(car 1)"); got != "! TYPE-ERROR 1 list" {
		t.Errorf("with a number as %%FAULT: %s", got)
	}
	// A call of %FAULT is a step, as any call is.
	w = newWorld(t)
	_, without := meaning.Run(w, convert(t, "(car 1)"), 100)
	w.SetFunction(symbol(t, w, "%FAULT"), value(t, w, "#'list"))
	if _, with := meaning.Run(w, convert(t, "(car 1)"), 100); with != without+1 {
		t.Errorf("%d steps without %%FAULT, %d with it", without, with)
	}
}

// P21.5: a progn of one form, and a block that nobody leaves, change nothing.
func TestNeutral(t *testing.T) {
	for _, s := range programs() {
		w := noting(t)
		want := run(t, w, s) + w.Output()
		for _, around := range []string{"(progn %)", "(block unused %)", "(let () %)", "(locally %)", "(flet () %)", "(the t %)", "(labels ((unused () 1)) %)", "(multiple-value-prog1 % (car nil))", "(unwind-protect % 1)", "(catch 'unused %)", "(if t % 1)"} {
			w := noting(t)
			if got := run(t, w, strings.Replace(around, "%", s, 1)) + w.Output(); got != want {
				t.Errorf("%s in %s is %s; want %s", s, around, got, want)
			}
		}
	}
	for _, s := range []string{"(list 1 (+ 1 2))", "(let ((a (+ 1 2)) (b (list 3))) (list a b))"} {
		w := newWorld(t)
		if a, b := run(t, w, "(progn "+s+" (+ 1 1) 'x)"), run(t, w, "(progn (+ 1 1) "+s+" 'x)"); a != b {
			t.Errorf("the order of %s matters", s)
		}
	}
}
