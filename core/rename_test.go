package core_test

import (
	"math"
	"math/rand"
	"reflect"
	"testing"

	"commonform/api"
	"commonform/core"
)

func TestRenamed(t *testing.T) {
	for _, c := range []struct {
		text string
		by   int
		want string
		e    api.Errno
	}{
		{"(let [0] (const #1) (set 0 (var 0)))", 3, "(let [3] (const #1) (set 3 (var 3)))", api.OK},
		{"(block 5 (tagbody [6 7] (return 5 (go 7)) (go 6) (progn)))", -5, "(block 0 (tagbody [1 2] (return 0 (go 2)) (go 1) (progn)))", api.OK},
		{"(lambda 1 {1 1 -1 -} {2 2 3 -} {4 4 -1 :K} (const #7) (const #8) (var 4))", 9995, "(lambda 1 {1 9996 -1 -} {2 9997 9998 -} {4 9999 -1 :K} (const #7) (const #8) (var 9999))", api.OK},
		{"(lambda 1 {1 1 -1 -} {2 2 3 -} {4 4 -1 :K} (const #7) (const #8) (var 4))", 9996, "", api.ErrRange},
		{"(lambda 1 {1 1 -1 -} (const #7))", -2, "", api.ErrRange},
		{"(lambda 1 {1 1 -1 -} (const #7))", -1, "(lambda 1 {1 0 -1 -} (const #7))", api.OK},
		{"(block 0 (const #1))", -1, "", api.ErrRange},
		{"(block 0 (const #1))", math.MaxInt, "", api.ErrRange},
		{"(block 9 (const #1))", math.MaxInt, "", api.ErrRange},
		{"(block 9 (const #1))", math.MinInt, "", api.ErrRange},
		{"(lambda 1 (const #7))", math.MaxInt, "(lambda 1 (const #7))", api.OK},
		{"(bind ['X] (const #7) (special 'X))", -4, "(bind ['X] (const #7) (special 'X))", api.OK},
	} {
		got, e := core.Renamed(tree(t, c.text), c.by)
		if e != c.e || e == api.OK && show(t, got) != c.want || e != api.OK && !isZero(got) {
			t.Errorf("Renamed(%s, %d) = %s, %v; want %s, %v", c.text, c.by, brief(got), e, c.want, c.e)
		}
	}
	for _, c := range []api.Core{{Op: api.CoreVar}, chain(101), {}} {
		if got, e := core.Renamed(c, 0); e != api.ErrForm || !isZero(got) {
			t.Errorf("Renamed(%s) = %v; want ErrForm", brief(c), e)
		}
	}
}

func TestSame(t *testing.T) {
	for _, c := range []struct {
		a, b string
		want bool
	}{
		{"(const #1)", "(const #1)", true},
		{"(const #1)", "(const #2)", false},
		{"(const #1)", "(progn)", false},
		{"(progn (const #1))", "(progn (const #1) (const #1))", false},
		{"(let [0] (const #1) (var 0))", "(let [7] (const #1) (var 7))", true},
		{"(let [0 1] (const #1) (const #1) (var 0))", "(let [1 0] (const #1) (const #1) (var 1))", true},
		{"(let [0 1] (const #1) (const #1) (var 0))", "(let [0 1] (const #1) (const #1) (var 1))", false},
		{"(let [0 1] (const #1) (const #1) (var 0))", "(let [0] (const #1) (var 0))", false},
		{"(let [0 1] (const #1) (const #1) (progn (var 0) (var 1)))", "(let [0 1] (const #1) (const #1) (progn (var 0) (var 0)))", false},
		{"(let [0 1] (const #1) (const #1) (progn (var 0) (var 0)))", "(let [0 1] (const #1) (const #1) (progn (var 0) (var 1)))", false},
		{"(let [0] (const #1) (block 0 (return 0 (var 0))))", "(let [3] (const #1) (block 4 (return 4 (var 3))))", true},
		{"(tagbody [0 1] (go 0) (go 1) (progn))", "(tagbody [1 0] (go 1) (go 0) (progn))", true},
		{"(tagbody [0 1] (go 0) (go 1) (progn))", "(tagbody [1 0] (go 0) (go 1) (progn))", false},
		{"(let [0] (progn) (tagbody [0] (go 0) (block 0 (return 0 (var 0)))))", "(let [1] (progn) (tagbody [2] (go 2) (block 3 (return 3 (var 1)))))", true},
		{"(block 1 (block 0 (return 0 (return 1 (progn)))))", "(block 0 (block 1 (return 0 (return 1 (progn)))))", false},
		{"(progn (let [0] (progn) (var 0)) (let [1 2] (progn) (progn) (progn (var 1) (var 2))))", "(progn (let [0] (progn) (var 0)) (let [1 2] (progn) (progn) (progn (var 1) (var 1))))", false},
		{"(lambda 0 (progn))", "(lambda 1 (progn))", false},
		{"(lambda 0 {1 0 -1 -} (progn))", "(lambda 0 {3 0 -1 -} (progn))", false},
		{"(lambda 0 {1 0 -1 -} (progn))", "(lambda 0 (progn))", false},
		{"(lambda 0 {2 0 1 -} (progn) (var 1))", "(lambda 0 {2 1 0 -} (progn) (var 0))", true},
		{"(lambda 0 {2 0 1 -} (progn) (progn))", "(lambda 0 {2 0 -1 -} (progn) (progn))", false},
		{"(lambda 0 {4 0 1 :K} (progn) (progn))", "(lambda 0 {4 0 1 :L} (progn) (progn))", false},
		{"(bind ['X] (progn) (progn))", "(bind ['Y] (progn) (progn))", false},
		{"(special 'X)", "(special 'Y)", false},
		{"(special 'X)", "(function 'X)", false},
		{"(progn (let [0] (progn) (var 0)) (let [1] (progn) (var 1)))", "(progn (let [1] (progn) (var 1)) (let [0] (progn) (var 0)))", true},
	} {
		a, b := tree(t, c.a), tree(t, c.b)
		if core.Same(a, b) != c.want || core.Same(b, a) != c.want {
			t.Errorf("Same(%s, %s) = %v; want %v", c.a, c.b, !c.want, c.want)
		}
	}
	free := api.Core{Op: api.CoreVar}
	if core.Same(free, free) || core.Same(free, nothing()) || core.Same(nothing(), free) || core.Same(chain(101), chain(101)) {
		t.Error("trees that are not right are the same")
	}
}

// P19.4: sums of renamings; and a tree is the same as all of its renamed ones, but not as another one.
func TestRenaming(t *testing.T) {
	var last api.Core
	trees(true, func(c api.Core, r *rand.Rand) {
		m, k := r.Intn(5000), r.Intn(4000)
		a, e := core.Renamed(c, m)
		b, e2 := core.Renamed(a, k)
		sum, e3 := core.Renamed(c, m+k)
		if e != api.OK || e2 != api.OK || e3 != api.OK || !reflect.DeepEqual(b, sum) {
			t.Fatalf("Renamed(%s, %d and %d): %v, %v, %v", brief(c), m, k, e, e2, e3)
		}
		if !core.Same(c, a) || !core.Same(a, sum) || !core.Same(c, sum) || !core.Same(sum, c) || !core.Same(c, c) {
			t.Fatalf("%s is not the same as its renamed ones", brief(c))
		}
		back, e := core.Renamed(sum, -m-k)
		text, _ := core.Show(c)
		if again, _ := core.Show(back); e != api.OK || again != text {
			t.Fatalf("%s renamed and back is %s", text, again)
		}
		if last.Op != 0 && core.Same(c, last) != core.Same(last, c) {
			t.Fatalf("Same is not symmetric for %s and %s", brief(c), brief(last))
		}
		last = c
	})
}
