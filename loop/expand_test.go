package loop_test

import (
	"math/rand"
	"slices"
	"strconv"
	"strings"
	"testing"

	"commonform/api"
	"commonform/forms"
	"commonform/loop"
)

func TestMacro(t *testing.T) {
	for _, c := range []struct {
		from, to string
		next     int
	}{
		{"", "(block nil (tagbody g0 (go g0)))", 1},
		{"(a) (b)", "(block nil (tagbody g0 (a) (b) (go g0)))", 1},
		{"do (a) (b)", "(block nil (let* () (tagbody g0 (progn (a) (b)) (go g0) g1) nil))", 2},
		{"named n", "(block n (let* () (tagbody g0 (go g0) g1) nil))", 2},
		{"named n return 5", "(block n (let* () (tagbody g0 (return-from n 5) (go g0) g1) nil))", 2},
		{"with a with b = (c)", "(block nil (let* ((a nil) (b (c))) (tagbody g0 (go g0) g1) nil))", 2},
		{"do (a) finally (b) (c) initially (d) initially (e) (f) finally (h)", "(block nil (let* () (tagbody (d) (e) (f) g0 (progn (a)) (go g0) g1 (b) (c) (h)) nil))", 2},
		{"for v in x", "(block nil (let* ((g2 x) (v nil)) (tagbody g0 (if (atom g2) (go g1)) (setq v (car g2)) (setq g2 (cdr g2)) (go g0) g1) nil))", 3},
		{"for v in x by 'y", "(block nil (let* ((g2 x) (g3 'y) (v nil)) (tagbody g0 (if (atom g2) (go g1)) (setq v (car g2)) (setq g2 (funcall g3 g2)) (go g0) g1) nil))", 4},
		{"for v on x", "(block nil (let* ((g2 x) (v nil)) (tagbody g0 (if (atom g2) (go g1)) (setq v g2) (setq g2 (cdr g2)) (go g0) g1) nil))", 3},
		{"for v on x by y", "(block nil (let* ((g2 x) (g3 y) (v nil)) (tagbody g0 (if (atom g2) (go g1)) (setq v g2) (setq g2 (funcall g3 g2)) (go g0) g1) nil))", 4},
		{"for v across x", "(block nil (let* ((g2 x) (g3 0) (g4 (length g2)) (v nil)) (tagbody g0 (if (< g3 g4) nil (go g1)) (setq v (aref g2 g3)) (setq g3 (+ g3 1)) (go g0) g1) nil))", 5},
		{"for v = x", "(block nil (let* ((v nil)) (tagbody g0 (setq v x) (go g0) g1) nil))", 2},
		{"for v = x then y", "(block nil (let* ((g2 t) (v nil)) (tagbody g0 (setq v (if g2 x y)) (setq g2 nil) (go g0) g1) nil))", 3},
		{"for v from x", "(block nil (let* ((g2 x) (v nil)) (tagbody g0 (setq v g2) (setq g2 (+ g2 1)) (go g0) g1) nil))", 3},
		{"for v to x", "(block nil (let* ((g2 0) (g3 x) (v nil)) (tagbody g0 (if (> g2 g3) (go g1)) (setq v g2) (setq g2 (+ g2 1)) (go g0) g1) nil))", 4},
		{"for v below 5 by 'k", "(block nil (let* ((g2 0) (g3 5) (v nil)) (tagbody g0 (if (>= g2 g3) (go g1)) (setq v g2) (setq g2 (+ g2 'k)) (go g0) g1) nil))", 4},
		{"for v downfrom x by k", "(block nil (let* ((g2 x) (g3 k) (v nil)) (tagbody g0 (setq v g2) (setq g2 (- g2 g3)) (go g0) g1) nil))", 4},
		{"for v from x downto y by k", "(block nil (let* ((g2 x) (g3 y) (g4 k) (v nil)) (tagbody g0 (if (< g2 g3) (go g1)) (setq v g2) (setq g2 (- g2 g4)) (go g0) g1) nil))", 5},
		{"for v from 9 above 5", "(block nil (let* ((g2 9) (g3 5) (v nil)) (tagbody g0 (if (<= g2 g3) (go g1)) (setq v g2) (setq g2 (- g2 1)) (go g0) g1) nil))", 4},
		{"repeat x", "(block nil (let* ((g2 x)) (tagbody g0 (if (< 0 g2) nil (go g1)) (setq g2 (- g2 1)) (go g0) g1) nil))", 3},
		{"while x until y", "(block nil (let* () (tagbody g0 (if x nil (go g1)) (if y (go g1)) (go g0) g1) nil))", 2},
		{"named n always x never y", "(block n (let* () (tagbody g0 (if x nil (return-from n nil)) (if y (return-from n nil)) (go g0) g1) t))", 2},
		{"never y", "(block nil (let* () (tagbody g0 (if y (return-from nil nil)) (go g0) g1) t))", 2},
		{"thereis x thereis y", "(block nil (let* () (tagbody g0 (let* ((g2 x)) (if g2 (return-from nil g2))) (let* ((g3 y)) (if g3 (return-from nil g3))) (go g0) g1) nil))", 4},
		{"collect x append y", "(block nil (let* ((g2 nil)) (tagbody g0 (setq g2 (append g2 (list x))) (setq g2 (append g2 y)) (go g0) g1) g2))", 3},
		{"sum x count y", "(block nil (let* ((g2 0)) (tagbody g0 (setq g2 (+ g2 x)) (if y (setq g2 (+ g2 1))) (go g0) g1) g2))", 3},
		{"maximize x minimize y", "(block nil (let* ((g2 nil)) (tagbody g0 (let* ((g3 x)) (setq g2 (if g2 (max g2 g3) g3))) (let* ((g4 y)) (setq g2 (if g2 (min g2 g4) g4))) (go g0) g1) g2))", 5},
		{"sum x into a collect y into b count z into a maximize u into c", "(block nil (let* ((a 0) (b nil) (c nil)) (tagbody g0 (setq a (+ a x)) (setq b (append b (list y))) (if z (setq a (+ a 1)))" +
			" (let* ((g2 u)) (setq c (if c (max c g2) g2))) (go g0) g1) nil))", 3},
		{"with e repeat 2 if x sum 1 into b else collect 1 into c end sum 2 into a sum 3", "(block nil (let* ((g2 0) (b 0) (c nil) (a 0) (e nil) (g3 2)) (tagbody g0 (if (< 0 g3) nil (go g1)) (setq g3 (- g3 1))" +
			" (if x (progn (setq b (+ b 1))) (progn (setq c (append c (list 1))))) (setq a (+ a 2)) (setq g2 (+ g2 3)) (go g0) g1) g2))", 4},
		{"if x do (a) and return 1 end", "(block nil (let* () (tagbody g0 (if x (progn (progn (a)) (return-from nil 1)) (progn)) (go g0) g1) nil))", 2},
		{"unless x maximize a into b else minimize c into b", "(block nil (let* ((b nil)) (tagbody g0 (if x (progn (let* ((g3 c)) (setq b (if b (min b g3) g3)))) (progn (let* ((g2 a)) (setq b (if b (max b g2) g2))))) (go g0) g1) nil))", 4},
		{"if x unless y collect z", "(block nil (let* ((g2 nil)) (tagbody g0 (if x (progn (if y (progn) (progn (setq g2 (append g2 (list z)))))) (progn)) (go g0) g1) g2))", 3},
		{"collect x into a always y", "(block nil (let* ((a nil)) (tagbody g0 (setq a (append a (list x))) (if y nil (return-from nil nil)) (go g0) g1) t))", 2},
	} {
		f := read(t, "(loop "+c.from+")")
		got, next, e := loop.Macro(f, 0)
		if want := read(t, c.to); e != api.OK || next != c.next || !forms.Equal(got, want) {
			t.Errorf("Macro(%s) = %s, %d, %v\nwant %s, %d", c.from, text(got), next, e, text(want), c.next)
		}
		if !forms.Equal(f, read(t, "(loop "+c.from+")")) {
			t.Errorf("Macro has changed (loop %s)", c.from)
		}
	}
}

// The error of the form, then that of fresh, then those of Parse and of Expand.
func TestMacroErrors(t *testing.T) {
	for _, c := range []struct {
		text  string
		fresh int
		e     api.Errno
	}{
		{"(list)", -1, api.ErrForm}, {"(loop)", -1, api.ErrArg}, {"(loop)", 1<<30 + 1, api.ErrArg}, {"(loop)", 1 << 30, api.OK}, {"(loop foo)", -1, api.ErrArg}, {"(loop foo)", 0, api.ErrForm}, {"(loop for v below nil)", 0, api.ErrForm},
		{"(loop do (a) named b)", 0, api.ErrOrder}, {"(loop sum 1 collect 2)", 0, loop.ErrKind}, {"(loop sum 1 collect 2)", -1, api.ErrArg}, {"(loop do #1=(a . #1#))", 0, api.ErrForm},
		{"(loop collect #1=a)", 0, api.OK}, {"(loop collect #1=(a) collect #1#)", 0, api.ErrForm}, {"(loop with a = '#1=(a . #1#))", 0, api.OK},
		{"(loop for v by #1=1)", 0, api.OK}, {"(loop for #1=v in x)", 0, api.ErrForm}, {"(loop " + strings.Repeat("do (a) ", 201) + ")", 0, api.ErrSize},
	} {
		if got, next, e := loop.Macro(read(t, c.text), c.fresh); e != c.e || e != api.OK && (next != 0 || got.Kind != 0) {
			t.Errorf("Macro(%s, %d) = %s, %d, %v; want %v", c.text, c.fresh, text(got), next, e, c.e)
		}
	}
	if _, _, e := loop.Macro(api.Form{Kind: api.FormRef, Text: "1"}, -1); e != forms.ErrLabel {
		t.Errorf("Macro of no form: %v", e)
	}
	for _, fresh := range []int{-1, 1<<30 + 1} {
		if _, _, e := loop.Expand(nil, fresh); e != api.ErrArg {
			t.Errorf("Expand from %d: %v", fresh, e)
		}
	}
	if f, next, e := loop.Expand(nil, 7); e != api.OK || next != 9 || !forms.Equal(f, read(t, "(block nil (let* () (tagbody g7 (go g7) g8) nil))")) {
		t.Errorf("Expand of no clauses: %s, %d, %v", text(f), next, e)
	}
}

func nested(n int) api.Form {
	f := forms.Nil()
	for range n {
		f = forms.Call("F", []api.Form{f})
	}
	return f
}

func TestSizes(t *testing.T) {
	symbol := func(s string) api.Form { return forms.Symbol("COMMON-LISP", s) }
	many := func(n int) []api.Form { return slices.Repeat([]api.Form{nested(1)}, n) }
	for _, c := range []struct {
		what string
		l    []api.Form
		e    api.Errno
	}{
		{"a deep form", []api.Form{nested(97)}, api.OK},
		{"a form that is too deep", []api.Form{nested(98)}, api.ErrSize},
		{"a deep form to collect", []api.Form{symbol("COLLECT"), nested(93)}, api.OK},
		{"one that is too deep", []api.Form{symbol("COLLECT"), nested(94)}, api.ErrSize},
		{"many forms", many(497), api.OK},
		{"too many forms", many(499), api.ErrSize},
		{"many forms to do", append([]api.Form{symbol("DO")}, many(493)...), api.OK},
		{"too many forms to do", append([]api.Form{symbol("DO")}, many(498)...), api.ErrSize},
	} {
		if f, next, e := loop.Macro(forms.Call("LOOP", c.l), 0); e != c.e || e != api.OK && (next != 0 || f.Kind != 0) {
			t.Errorf("%s: %d, %v; want %v", c.what, next, e, c.e)
		}
	}
}

// A writer writes LOOP forms whose forms are all different: (s1), (s2) and so on.
type writer struct {
	r    *rand.Rand
	next int
}

func (m *writer) form() string {
	m.next++
	return "(s" + strconv.Itoa(m.next) + ")"
}

// fill writes a text in which S is a form, V a variable, and I maybe a variable behind INTO.
func (m *writer) fill(template string) string {
	var s strings.Builder
	for _, c := range template {
		switch c {
		case 'S':
			s.WriteString(m.form())
		case 'V':
			m.next++
			s.WriteString("v" + strconv.Itoa(m.next))
		case 'A':
			s.WriteString(m.action(1))
		default:
			s.WriteRune(c)
		}
	}
	return s.String()
}

func (m *writer) action(depth int) string {
	l := []string{"do S", "do S S", "collect S into V", "append S", "sum S into V", "count S into V", "maximize S into V", "minimize S into V", "collect S", "return S", "if S A", "unless S A else A end", "when S A and A end"}
	if depth == 0 || m.r.Intn(2) == 0 {
		l = l[:10]
	}
	return m.fill(l[m.r.Intn(len(l))])
}

func (m *writer) loop() string {
	heads := []string{"with V = S", "with V", "initially S", "finally S", "for V in S", "for V in S by S", "for V on S", "for V across S", "for V = S", "for V = S then S", "for V from S", "for V to S by S", "for V from S downto S", "for V below S", "for V from S above S by S", "repeat S"}
	bodies := []string{"while S", "until S", "repeat S", "initially S", "finally S S", "A", "A"}
	var l []string
	for range 1 + m.r.Intn(4) {
		l = append(l, m.fill(heads[m.r.Intn(len(heads))]))
	}
	for range m.r.Intn(4) {
		l = append(l, m.fill(bodies[m.r.Intn(len(bodies))]))
	}
	return "(loop " + strings.Join(l, " ") + ")"
}

func names(f api.Form) []string {
	var l []string
	walk(f, func(f api.Form) {
		if n, ok := strings.CutPrefix(f.Text, "S"); ok {
			if _, err := strconv.Atoi(n); err == nil {
				l = append(l, f.Text)
			}
		}
	})
	return l
}

// P24.3, P24.4: each form once; new symbols are different; what goes into the body stands there in the order of the clauses.
func TestLaws(t *testing.T) {
	for seed := range int64(2000) {
		m := &writer{r: rand.New(rand.NewSource(seed))}
		source := m.loop()
		f := read(t, source)
		got, next, e := loop.Macro(f, 100)
		if e != api.OK {
			t.Fatalf("Macro(%s): %v", source, e)
		}
		here, there := names(f), names(got)
		slices.Sort(here)
		slices.Sort(there)
		if !slices.Equal(here, there) {
			t.Fatalf("Macro(%s) = %s", source, text(got))
		}
		walk(got, func(f api.Form) {
			if n, err := strconv.Atoi(f.Text); f.Home == "%" && (err != nil || n < 100 || n >= next) {
				t.Fatalf("Macro(%s) = %s, %d", source, text(got), next)
			}
		})
		if other, next2, _ := loop.Macro(f, 0); next2 != next-100 || !forms.Equal(got, moved(other, 100)) {
			t.Fatalf("Macro(%s) from 0 on is %s, %d", source, text(other), next2)
		}
		checkBody(t, source, got)
	}
}

// checkBody looks whether the names of actions and tests, which stand behind all others but those of FINALLY and INITIALLY, are in order.
func checkBody(t *testing.T, source string, f api.Form) {
	t.Helper()
	var last int
	body := f.Kids[2].Kids[2]
	inSteps := false
	for _, k := range body.Kids[1 : len(body.Kids)-1] {
		if k.Home == "%" {
			inSteps = !inSteps
			continue
		}
		if !inSteps || forms.Is(k.Kids[0], "COMMON-LISP", "IF") && k.Kids[1].Kind == api.FormCons && len(names(k)) > 1 {
			continue
		}
		for _, s := range names(k) {
			n, _ := strconv.Atoi(s[1:])
			if n < last {
				t.Fatalf("Macro(%s) = %s", source, text(f))
			}
			last = n
		}
	}
}

// What the expansions do: the same as loops by hand.
func TestMeanings(t *testing.T) {
	for source, want := range map[string]string{
		"(let ((n 0)) (loop (setq n (+ n 1)) (if (= n 5) (return n))))":                            "5",
		"(loop for x in '(1 2 3) collect (* x x))":                                                 "(1 4 9)",
		"(loop for x in '(1 2 3 4 5) by 'cdr collect x)":                                           "(1 2 3 4 5)",
		"(loop for x in '(1 2 3 4 5) by (lambda (l) (cdr (cdr l))) collect x)":                     "(1 3 5)",
		"(loop for x on '(1 2 . 3) collect x)":                                                     "((1 2 . 3) (2 . 3))",
		"(loop for c across \"abc\" collect c)":                                                    "(#\\a #\\b #\\c)",
		"(loop for i from 1 to 4 collect i)":                                                       "(1 2 3 4)",
		"(loop for i below 4 collect i)":                                                           "(0 1 2 3)",
		"(loop for i from 9 downto 1 by 3 collect i)":                                              "(9 6 3)",
		"(loop for i from 9 above 3 by 3 collect i)":                                               "(9 6)",
		"(loop for i from 5 to 4 collect i)":                                                       "nil",
		"(loop for x = 1 then (* 2 x) while (< x 20) collect x)":                                   "(1 2 4 8 16)",
		"(let ((n 0)) (loop for x = (setq n (+ n 1)) until (> x 3) collect x))":                    "(1 2 3)",
		"(loop repeat 3 sum 2)":                                                                    "6",
		"(loop repeat -3 sum 2)":                                                                   "0",
		"(loop for x in '(3 9 2) maximize x into a minimize x into b finally (return (list a b)))": "(9 2)",
		"(loop for x in nil maximize x)":                                                           "nil",
		"(loop for x in '(1 nil 2) count x)":                                                       "2",
		"(loop for x in '((1) (2 3) nil) append x)":                                                "(1 2 3)",
		"(list (loop for x in '(1 2) always (integerp x)) (loop for x in '(1 a) always (integerp x)) (loop for x in '(a b) never (integerp x)) (loop for x in '(a 1) never (integerp x)))": "(t nil t nil)",
		"(list (loop for x in '(1 a 2) thereis (if (symbolp x) (list x))) (loop for x in '(1) thereis (symbolp x)))":                                                                       "((a) nil)",
		"(loop named outer for x in '(1 2) do (loop for y in '(3 4) do (if (= y 4) (return-from outer (list x y)))))":                                                                      "(1 4)",
		"(loop with a = 1 with b = (+ a 1) for x in '(1 2) sum (+ a b x))":                                                                                                                 "9",
		"(loop for x in '(1 2 3 4) if (= 0 (mod x 2)) collect x into even else collect x into odd end finally (return (list even odd)))":                                                   "((2 4) (1 3))",
		"(loop for x in '(1 2 3) unless (= x 2) sum x and count t into n end when (= x 3) return n)":                                                                                       "2",
		"(let ((l nil)) (loop initially (setq l (cons 'start l)) for x in '(1 2) do (setq l (cons x l)) finally (setq l (cons 'end l))) l)":                                                "(end 2 1 start)",
		"(loop for x in '(1 2 3) for y = (* x 10) for i from 0 collect (list x y i))":                                                                                                      "((1 10 0) (2 20 1) (3 30 2))",
		"(loop for x in '(1 2) for y in '(a) collect (list x y))":                                                                                                                          "((1 a))",
		"(loop for x in '(1 2 3) return x)":                            "1",
		"(loop for x in '(1 2 3) do (and) (if (= x 2) (return 'two)))": "two",
		"(let ((calls 0)) (list (loop for x below (progn (setq calls (+ calls 1)) 3) by (progn (setq calls (+ calls 1)) 1) sum x) calls))": "(3 2)",
	} {
		if got := run(t, source); got != want {
			t.Errorf("%s is %s; want %s", source, got, want)
		}
	}
}

// A result shares no memory with the arguments.
func TestMemory(t *testing.T) {
	f := read(t, "(loop with a = (b (c)) for v in (d) do (e (f)) collect '(g))")
	l, _ := loop.Parse(f)
	made, _, _ := loop.Expand(l, 0)
	simple := read(t, "(loop (a (b)))")
	other, _, _ := loop.Macro(simple, 0)
	want, wantOther := text(made), text(other)
	spoil(simple)
	for _, c := range l {
		for i := range c.Forms {
			spoil(c.Forms[i])
		}
	}
	if text(made) != want || text(other) != wantOther {
		t.Errorf("with the arguments the results become %s and %s", text(made), text(other))
	}
}
