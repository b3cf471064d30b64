package lib_test

import (
	"slices"
	"strconv"
	"strings"
	"testing"

	"commonform/api"
	"commonform/forms"
	"commonform/heap"
	"commonform/lib"
	"commonform/printer"
	"commonform/reader"
)

// newWorld returns a world with all room that there may be.
func newWorld(t *testing.T) *lib.World {
	t.Helper()
	w, e := lib.New(api.MaxWords, api.MaxWords)
	if e != api.OK {
		t.Fatal(e)
	}
	return w
}

// leastLimit is the least limit of a heap in which a world has room.
func leastLimit(t *testing.T) int {
	t.Helper()
	return newWorld(t).Heap().Used()
}

// tightWorld returns a world with room for so many words more.
func tightWorld(t *testing.T, words int) *lib.World {
	t.Helper()
	limit := leastLimit(t) + words
	w, e := lib.New(limit, limit)
	if e != api.OK {
		t.Fatal(e)
	}
	return w
}

// read returns the form of a text, with COMMON-LISP-USER as the package.
func read(t *testing.T, s string) api.Form {
	t.Helper()
	r, at, e := reader.One(reader.Standard("COMMON-LISP-USER"), s)
	if e != api.OK {
		t.Fatalf("One(%q): %d, %v", s, at, e)
	}
	return r.Form
}

func text(f api.Form) string {
	s, e := printer.Text(f, true)
	if e != api.OK {
		return "?"
	}
	return s
}

// object builds the object of a text.
func object(t *testing.T, w *lib.World, s string) heap.Word {
	t.Helper()
	x, e := w.Build(read(t, s))
	if e != api.OK {
		t.Fatalf("Build(%s): %v", s, e)
	}
	return x
}

// symbol returns the object of a symbol.
func symbol(t *testing.T, w *lib.World, home, name string) heap.Word {
	t.Helper()
	x, e := w.Symbol(home, name)
	if e != api.OK {
		t.Fatalf("Symbol(%s, %s): %v", home, name, e)
	}
	return x
}

func lisp(t *testing.T, w *lib.World, name string) heap.Word {
	t.Helper()
	return symbol(t, w, "COMMON-LISP", name)
}

// shown returns the text of an object's form.
func shown(w *lib.World, x heap.Word) string {
	f, e := w.Show(x)
	if e != api.OK {
		return "error " + e.Error()
	}
	return text(f)
}

func allShown(w *lib.World, l []heap.Word) string {
	var texts []string
	for _, x := range l {
		texts = append(texts, shown(w, x))
	}
	return strings.Join(texts, " ")
}

// told writes an answer.
func told(w *lib.World, a lib.Answer) string {
	switch a.Kind {
	case lib.AnswerValues:
		return allShown(w, a.Values)
	case lib.AnswerFault:
		return strings.TrimRight("! "+a.Fault.Type+" "+allShown(w, a.Fault.Data), " ")
	case lib.AnswerNext:
		return strings.TrimRight("> "+shown(w, a.Function)+" "+allShown(w, a.Values), " ")
	}
	return "limit " + a.Code.Error()
}

// arguments builds the arguments of a call; $X is the value of X.
func arguments(t *testing.T, w *lib.World, l []api.Form) []heap.Word {
	t.Helper()
	var args []heap.Word
	for _, f := range l {
		isValue := f.Kind == api.FormSymbol && strings.HasPrefix(f.Text, "$")
		f.Text = strings.TrimPrefix(f.Text, "$")
		x, e := w.Build(f)
		if e != api.OK {
			t.Fatalf("Build(%s): %v", text(f), e)
		}
		if isValue {
			x, _ = w.Value(x)
		}
		args = append(args, x)
	}
	return args
}

// call calls the function at the head of a list with the other elements, as they are.
func call(t *testing.T, w *lib.World, s string) lib.Answer {
	t.Helper()
	l, _ := forms.Items(read(t, s))
	words := arguments(t, w, l)
	return w.Call(words[0], words[1:])
}

// A row is a call, and what it answers.
type row struct{ call, want string }

// check holds calls in one world against what they answer.
func check(t *testing.T, w *lib.World, rows []row) {
	t.Helper()
	for _, r := range rows {
		if got := told(w, call(t, w, r.call)); got != r.want {
			t.Errorf("%s is %s; want %s", r.call, got, r.want)
		}
	}
}

// set gives a symbol of COMMON-LISP-USER a value.
func set(t *testing.T, w *lib.World, name string, x heap.Word) {
	t.Helper()
	if e := w.SetValue(symbol(t, w, "COMMON-LISP-USER", name), x); e != api.OK {
		t.Fatalf("SetValue(%s): %v", name, e)
	}
}

// making makes an object of any kind with some fields.
func making(t *testing.T, w *lib.World, kind int, fields ...heap.Word) heap.Word {
	t.Helper()
	x, e := w.Heap().New(kind, len(fields))
	if e != api.OK {
		t.Fatal(e)
	}
	for i, y := range fields {
		if e := w.Heap().Set(x, i, y); e != api.OK {
			t.Fatal(e)
		}
	}
	return x
}

func raw(t *testing.T, w *lib.World, kind int, bytes string) heap.Word {
	t.Helper()
	x, e := w.Heap().Raw(kind, bytes)
	if e != api.OK {
		t.Fatal(e)
	}
	return x
}

func fix(n int64) heap.Word {
	x, _ := heap.Fix(n)
	return x
}

// keepAll keeps all objects that are met from roots, in another order, as a collector may.
func keepAll(t *testing.T, w *lib.World) {
	t.Helper()
	h := w.Heap()
	met := map[heap.Word]bool{heap.Nil: true}
	var reached []heap.Word
	var meet func(x heap.Word)
	meet = func(x heap.Word) {
		if !x.IsRef() || h.Place(x) < 0 || x != heap.Nil && met[x] {
			return
		}
		if x != heap.Nil {
			met[x] = true
			reached = append(reached, x)
		}
		for i := range h.Len(x) {
			y, e := h.Get(x, i)
			if e != api.OK {
				break
			}
			if y != heap.Nil {
				meet(y)
			}
		}
	}
	meet(heap.Nil)
	for _, root := range h.Roots() {
		if x, _ := h.At(root); x != heap.Nil {
			meet(x)
		}
	}
	slices.Reverse(reached)
	if e := h.Keep(reached[:len(reached)/2], reached[len(reached)/2:]); e != api.OK {
		t.Fatal(e)
	}
}

// state writes all that a world has: what its symbols have, the table, the output and the counter.
func state(t *testing.T, w *lib.World) string {
	t.Helper()
	p := w.Parts()
	s := p.Table + p.Output + strconv.Itoa(p.Counter)
	for i, x := range p.Words {
		s += "\n" + strconv.Itoa(p.Numbers[i])
		for field := range 5 {
			y, _ := w.Heap().Get(x, field)
			s += " " + shown(w, y)
		}
	}
	return s
}
