package place_test

import (
	"math/rand"
	"slices"
	"strconv"
	"strings"
	"testing"

	"commonform/api"
	"commonform/core"
	"commonform/forms"
	"commonform/lib"
	"commonform/macro"
	"commonform/meaning"
	"commonform/place"
)

func TestMacro(t *testing.T) {
	for _, c := range []struct {
		from, to string
		next     int
	}{
		{"(setf)", "nil", 0},
		{"(setf x 1)", "(setq x 1)", 0},
		{"(setf p::nil (f))", "(setq p::nil (f))", 0},
		{"(setf x 1 (car y) 2 z 3)", "(progn (setq x 1) (let* ((g0 y) (g1 2)) (progn (rplaca g0 g1) g1)) (setq z 3))", 2},
		{"(setf (car x) y)", "(let* ((g0 x) (g1 y)) (progn (rplaca g0 g1) g1))", 2},
		{"(setf (the t x) 1)", "(let* ((g0 1)) (setq x g0))", 1},
		{"(setf (values x) 1)", "(let* ((g0 1)) (values (setq x g0)))", 1},
		{"(setf (values) (f))", "(let* () (multiple-value-bind () (f) (values)))", 0},
		{"(setf (values a (car b)) (f))", "(let* ((g1 b)) (multiple-value-bind (g0 g2) (f) (values (setq a g0) (progn (rplaca g1 g2) g2))))", 3},
		{"(psetf)", "(let* () nil)", 0},
		{"(psetf (aref a 0) (f) b 1)", "(let* ((g0 a) (g1 (f)) (g2 1)) (progn (%aset g0 0 g1) g1) (setq b g2) nil)", 3},
		{"(incf x)", "(let* ((g0 (+ x 1))) (setq x g0))", 1},
		{"(incf (car x) '5)", "(let* ((g0 x) (g1 (+ (car g0) '5))) (progn (rplaca g0 g1) g1))", 2},
		{"(incf (the t x) n)", "(let* ((g1 n) (g0 (+ (the t x) g1))) (setq x g0))", 2},
		{"(decf (car x) (f))", "(let* ((g0 x) (g2 (f)) (g1 (- (car g0) g2))) (progn (rplaca g0 g1) g1))", 3},
		{"(decf (values x))", "(let* ((g0 (- (values x) 1))) (values (setq x g0)))", 1},
		{"(push (f) x)", "(let* ((g0 (f)) (g1 (cons g0 x))) (setq x g1))", 2},
		{"(push 1 (car x))", "(let* ((g0 1) (g1 x) (g2 (cons g0 (car g1)))) (progn (rplaca g1 g2) g2))", 3},
		{"(pushnew (f) (car x))", "(let* ((g0 (f)) (g1 x) (g3 (car g1))) (if (member g0 g3) g3 (let* ((g2 (cons g0 g3))) (progn (rplaca g1 g2) g2))))", 4},
		{"(pop x)", "(let* ((g1 x) (g0 (cdr g1))) (setq x g0) (car g1))", 2},
		{"(pop (cdr x))", "(let* ((g0 x) (g2 (cdr g0)) (g1 (cdr g2))) (progn (rplacd g0 g1) g1) (car g2))", 3},
		{"(rotatef)", "nil", 0},
		{"(rotatef x)", "(let* ((g0 x)) (setq x g0) nil)", 1},
		{"(rotatef (car a) b (cdr c))", "(let* ((g0 a) (g3 c) (g1 b) (g2 (cdr g3)) (g4 (car g0))) (progn (rplaca g0 g1) g1) (setq b g2) (progn (rplacd g3 g4) g4) nil)", 5},
		{"(shiftf x (f))", "(let* ((g1 x) (g0 (f))) (setq x g0) g1)", 2},
		{"(shiftf (car a) b 5)", "(let* ((g0 a) (g3 (car g0)) (g1 b) (g2 5)) (progn (rplaca g0 g1) g1) (setq b g2) g3)", 4},
	} {
		f := read(t, c.from)
		got, next, e := place.Macro(place.Standard(), f, 0)
		if want := read(t, c.to); e != api.OK || next != c.next || !forms.Equal(got, want) {
			t.Errorf("Macro(%s) = %s, %d, %v\nwant %s, %d", c.from, text(got), next, e, text(want), c.next)
		}
		if !forms.Equal(f, read(t, c.from)) {
			t.Errorf("Macro has changed %s", c.from)
		}
	}
}

func TestMacroErrors(t *testing.T) {
	for want, l := range map[api.Errno][]string{
		api.ErrForm: {"x", "nil", "5", "(f)", "(p::setf x 1)", "((setf) x 1)", "(setf . x)", "(setf x 1 . y)", "(setf x)", "(setf 5)", "(setf x 1 5)", "(psetf x)", "(psetf 5 1 x)", "(incf)", "(incf x 1 2)", "(decf)", "(decf 5 1 2)",
			"(push 1)", "(push 1 x y)", "(pushnew)", "(pushnew 1 x y)", "(pop)", "(pop x y)", "(rotatef . x)", "(shiftf)", "(shiftf x)", "(shiftf 5)", "(multiple-value-setq (x) 1)", "(quote x)"},
		place.ErrPlace: {"(setf 5 1)", "(setf nil 1)", "(setf x 1 5 2)", "(setf (the t 5) 1)", "(psetf 5 1)", "(psetf x 1 (values) 2)", "(psetf (values x y) 1)", "(incf 5)", "(incf (values x y) 1)", "(decf (values))", "(push 1 2)",
			"(push 1 (values x y))", "(pushnew 1 nil)", "(pop (values))", "(rotatef x 5)", "(rotatef (values x y))", "(shiftf 5 x)", "(shiftf x (values) 5)", "(setf (nth 1) 2)"},
		api.ErrSize: {"(incf (aref x #1=1))", "(push 1 (aref x '#1=1))"},
		api.OK:      {"(setf x #1=(f #1#))", "(push #1=(x) (f #1#))"},
	} {
		for _, s := range l {
			got, next, e := place.Macro(place.Standard(), read(t, s), 0)
			if e != want || e != api.OK && (next != 0 || got.Kind != 0) {
				t.Errorf("Macro(%s) = %s, %d, %v; want %v", s, text(got), next, e, want)
			}
		}
	}
}

// A writer of forms has places whose subforms are all different: (s1), (s2) and so on.
type writer struct {
	r    *rand.Rand
	next int
}

func (m *writer) subform() string {
	m.next++
	return "(s" + strconv.Itoa(m.next) + ")"
}

func (m *writer) place(isSingle bool) string {
	kinds := 7
	if isSingle {
		kinds = 6
	}
	switch m.r.Intn(kinds) {
	case 0:
		m.next++
		return "v" + strconv.Itoa(m.next)
	case 1:
		return "(car " + m.subform() + ")"
	case 2:
		return "(aref " + m.subform() + " 0 " + m.subform() + ")"
	case 3:
		return "(nth " + m.subform() + " " + m.subform() + ")"
	case 4:
		return "(other 'a " + m.subform() + " " + m.subform() + ")"
	case 5:
		return "(the t " + m.place(true) + ")"
	}
	return "(values " + m.place(false) + " " + m.place(true) + ")"
}

func (m *writer) form() string {
	some := func() string { return strings.TrimSpace(strings.Repeat("P ", m.r.Intn(3))) }
	templates := []string{"(setf Q S)", "(setf Q S Q S)", "(psetf P S P S)", "(incf P)", "(incf P S)", "(decf P S)", "(push S P)", "(pushnew S P)", "(pop P)", "(rotatef " + some() + ")", "(shiftf P " + some() + " S)"}
	var s strings.Builder
	for _, c := range templates[m.r.Intn(len(templates))] {
		switch c {
		case 'P':
			s.WriteString(m.place(true))
		case 'Q':
			s.WriteString(m.place(false))
		case 'S':
			s.WriteString(m.subform())
		default:
			s.WriteRune(c)
		}
	}
	return s.String()
}

// subforms returns the names S1, S2 and so on in the order in which they stand in a form.
func subforms(f api.Form) []string {
	var l []string
	walk(f, func(f api.Form) {
		if n, ok := strings.CutPrefix(f.Text, "S"); ok {
			if _, err := strconv.Atoi(n); err == nil {
				l = append(l, f.Text)
			}
		}
	})
	return l
}

// P23.2, P23.3: each subform once, and in order; fresh symbols are new, and only their numbers follow the first one.
func TestLaws(t *testing.T) {
	for seed := range int64(2000) {
		m := &writer{r: rand.New(rand.NewSource(seed))}
		source := m.form()
		f := read(t, source)
		got, next, e := place.Macro(place.Standard(), f, 100)
		if e != api.OK {
			t.Fatalf("Macro(%s): %v", source, e)
		}
		if !slices.Equal(subforms(got), subforms(f)) {
			t.Fatalf("Macro(%s) = %s", source, text(got))
		}
		bound := map[string]bool{}
		walk(got, func(f api.Form) {
			if f.Home == "%" {
				n, _ := strconv.Atoi(f.Text)
				if n < 100 || n >= next {
					t.Fatalf("Macro(%s) = %s, %d", source, text(got), next)
				}
				bound[f.Text] = true
			}
		})
		if other, next2, _ := place.Macro(place.Standard(), f, 0); next2 != next-100 || !forms.Equal(got, moved(other, 100)) {
			t.Fatalf("Macro(%s) from 0 on is %s, %d", source, text(other), next2)
		}
	}
}

func moved(f api.Form, by int) api.Form {
	return changed(f, func(f api.Form) api.Form {
		if n, err := strconv.Atoi(f.Text); err == nil && f.Home == "%" {
			f.Text = strconv.Itoa(n + by)
		}
		return f
	})
}

// P23.4: as many temps as values, no constants among these, and the stores of all places of VALUES.
func TestPlaceLaws(t *testing.T) {
	for seed := range int64(1000) {
		m := &writer{r: rand.New(rand.NewSource(seed))}
		a, b := m.place(false), m.place(false)
		var stores []int
		for _, s := range []string{a, b, "(values " + a + " " + b + ")"} {
			p, next, e := place.Expand(place.Standard(), read(t, s), 10)
			if e != api.OK || len(p.Temps) != len(p.Values) || slices.ContainsFunc(p.Values, place.Constant) || next != 10+len(p.Temps)+len(p.Stores) {
				t.Fatalf("Expand(%s) = %v, %d, %v", s, p, next, e)
			}
			stores = append(stores, len(p.Stores))
		}
		if stores[2] != stores[0]+stores[1] {
			t.Fatalf("VALUES of %s and %s has %d stores", a, b, stores[2])
		}
	}
}

// A result shares no memory with the arguments, nor one part of it with another one.
func TestMemory(t *testing.T) {
	l := place.Standard()
	f := read(t, "(values (aref (a) '(b)) (f #(1)))")
	p, _, _ := place.Expand(l, f, 0)
	want := texts(slices.Concat(p.Values, []api.Form{p.Write, p.Read}))
	spoil(f)
	if got := texts(slices.Concat(p.Values, []api.Form{p.Write, p.Read})); got != want {
		t.Errorf("with the form the place becomes %s", got)
	}
	spoil(p.Write)
	if got, want := text(p.Read), text(read(t, "(values (aref g0 '(b)) (f #(1)))")); got != want {
		t.Errorf("with its write the read becomes %s", got)
	}
}

// spoil changes all nodes of a form.
func spoil(f api.Form) {
	for i := range f.Kids {
		spoil(f.Kids[i])
		f.Kids[i] = api.Form{Kind: api.FormInt, Text: "99"}
	}
}

// run expands a form with this layer's macros, runs it, and returns its value.
func run(t *testing.T, source string) string {
	t.Helper()
	w, e := lib.New(api.MaxWords, api.MaxWords)
	if e != api.OK {
		t.Fatal(e)
	}
	table := macro.New()
	for _, name := range []string{"SETF", "PSETF", "INCF", "DECF", "PUSH", "PUSHNEW", "POP", "ROTATEF", "SHIFTF"} {
		table.Expanders = append(table.Expanders, macro.Named{Name: name, Expand: func(f api.Form, fresh int) (api.Form, int, api.Errno) {
			return place.Macro(place.Standard(), f, fresh)
		}})
	}
	f, _, end := macro.All(w, table, read(t, source), 0)
	if end.Kind != lib.EndValues {
		t.Fatalf("All(%s): %v", source, end)
	}
	c, e := core.Convert(f, nil)
	if e != api.OK {
		t.Fatalf("Convert(%s): %v", text(f), e)
	}
	end, _ = meaning.Run(w, c, api.MaxSteps)
	if end.Kind != lib.EndValues || len(end.Values) == 0 {
		t.Fatalf("%s ends with %v", source, end)
	}
	shown, e := w.Show(end.Values[0])
	if e == api.OK {
		shown, e = forms.Plain(shown)
	}
	if e != api.OK {
		t.Fatal(e)
	}
	return text(shown)
}

// What the expansions do: subforms are evaluated once, and in order.
func TestMeanings(t *testing.T) {
	for source, want := range map[string]string{
		"(let ((l (list 1 2 3))) (list (setf (car l) 5 (cadr l) 6 (nth 2 l) 7) l))":                                                                                      "(7 (5 6 7))",
		"(let ((l (list 1 2 3))) (setf (cddr l) 'a (second l) 'b) l)":                                                                                                    "(1 b . a)",
		"(let ((a 1) (b 2)) (list (psetf a b b a) a b))":                                                                                                                 "(nil 2 1)",
		"(let ((a 1) (b (list 2))) (list (multiple-value-list (setf (values a (car b)) (values 3 4))) a b))":                                                             "((3 4) 3 (4))",
		"(let ((l (list 1 2))) (list (incf (car l)) (decf (cadr l) 5) l))":                                                                                               "(2 -3 (2 -3))",
		"(let ((l nil)) (list (push 1 l) (push 2 l) (pushnew 1 l) (pushnew 3 l) (pop l) l))":                                                                             "((1) (2 1) (2 1) (3 2 1) 3 (2 1))",
		"(let ((a 1) (b (list 2)) (c 3)) (list (rotatef a (car b) c) a b c))":                                                                                            "(nil 2 (3) 1)",
		"(let ((a 1) (b (list 2))) (list (shiftf a (car b) 7) a b))":                                                                                                     "(1 2 (7))",
		"(let ((h (make-hash-table 'eql)) (v (vector 1 2))) (setf (gethash :a h) 1) (incf (aref v 1) (gethash :a h)) v)":                                                 "#(1 3)",
		"(let ((n nil) (l (list 1 2 3))) (flet ((note (x) (setq n (cons x n)) x)) (incf (nth (note 1) (note l)) (note 10)) (list l (length n) (car n))))":                "((1 12 3) 3 10)",
		"(let ((n nil) (v (vector 1 2))) (flet ((note (x) (setq n (cons x n)) x)) (psetf (aref v (note 0)) (note 5) (aref v (note 1)) (note 6)) (list v n)))":            "(#(5 6) (6 1 5 0))",
		"(let ((n nil) (v (vector 1 2))) (flet ((note (x) (setq n (cons x n)) x)) (rotatef (aref v (note 0)) (aref v (note 1))) (list v n)))":                            "(#(2 1) (1 0))",
		"(let ((n nil) (v (vector nil 2))) (flet ((note (x) (setq n (cons x n)) x)) (push (note 5) (aref v (note 0))) (list (pop (aref v (note 0))) v n)))":              "(5 #(nil 2) (0 0 5))",
		"(progn (%fset '|(SETF MY-CAR)| (function (lambda (v l) (rplaca l (list v))))) (let ((l (list 1))) (flet ((my-car (l) (car l))) (list (setf (my-car l) 2) l))))": "(2 ((2)))",
	} {
		got := run(t, source)
		if got != want {
			t.Errorf("%s is %s; want %s", source, got, want)
		}
	}
}
