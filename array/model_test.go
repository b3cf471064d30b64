package array_test

import (
	"math/rand"
	"slices"
	"testing"

	"commonform/api"
	"commonform/array"
	"commonform/forms"
)

// A model has arrays whose own elements are cells; what is displaced has the cells of its target.
type model struct {
	arrays []array.Array
	own    [][]*api.Form
}

func size(dims []int) int {
	n := 1
	for _, d := range dims {
		n *= d
	}
	return n
}

func (m *model) cells(a int) []*api.Form {
	x := m.arrays[a]
	if x.Target < 0 {
		return m.own[a]
	}
	return m.cells(x.Target)[x.Offset : x.Offset+size(x.Dims)]
}

func (m *model) isShown(a, target int) bool {
	return target >= 0 && (a == target || m.isShown(a, m.arrays[target].Target))
}

func fresh(n int, x api.Form) []*api.Form {
	var l []*api.Form
	for range n {
		cell := x
		l = append(l, &cell)
	}
	return l
}

// adjusted returns the cells of an array behind an adjustment.
func (m *model) adjusted(a int, dims []int, initial api.Form) []*api.Form {
	cells := fresh(size(dims), initial)
	old := m.arrays[a].Dims
	for i, x := range m.cells(a) {
		rest, at, index := i, make([]int, len(old)), 0
		for k := len(old) - 1; k >= 0; k-- {
			at[k] = rest % old[k]
			rest /= old[k]
		}
		isWithin := true
		for k, s := range at {
			isWithin = isWithin && s < dims[k]
			index = index*dims[k] + s
		}
		if isWithin {
			*cells[index] = *x
		}
	}
	return cells
}

// fits reports whether all that is displaced to an array has room in it.
func (m *model) fits(a int, dims []int) bool {
	for _, x := range m.arrays {
		if x.Target == a && x.Offset+size(x.Dims) > size(dims) {
			return false
		}
	}
	return true
}

// A pair is a room and its model, on which the same is done.
type pair struct {
	t    *testing.T
	r    *array.Room
	m    *model
	rand *rand.Rand
	seen map[string]int
}

func (p *pair) array() int {
	return p.rand.Intn(len(p.m.arrays))
}

func (p *pair) element(a int) api.Form {
	if p.m.arrays[a].Bits {
		return num(p.rand.Intn(2))
	}
	return forms.List([]api.Form{num(p.rand.Intn(1000))})
}

func (p *pair) dims(rank int) []int {
	var l []int
	for range rank {
		l = append(l, p.rand.Intn(4)+p.rand.Intn(2))
	}
	return l
}

func (p *pair) same(what string, got, want api.Errno) bool {
	p.t.Helper()
	p.seen[what+" "+got.Error()]++
	if got != want {
		p.t.Fatalf("%s: %v; expected %v", what, got, want)
	}
	return got == api.OK
}

func (p *pair) make() {
	if len(p.m.arrays) >= 12 {
		return
	}
	a := array.Array{Dims: p.dims(p.rand.Intn(4)), Fill: -1, Adjustable: p.rand.Intn(4) > 0, Target: -1, Bits: p.rand.Intn(3) == 0}
	if len(a.Dims) == 1 && p.rand.Intn(2) == 0 {
		a.Fill = p.rand.Intn(a.Dims[0] + 1)
	}
	want := api.OK
	if len(p.m.arrays) > 0 && p.rand.Intn(2) == 0 {
		a.Target = p.array()
		target := p.m.arrays[a.Target]
		a.Offset = p.rand.Intn(4)
		if target.Bits != a.Bits {
			want = array.ErrBits
		} else if a.Offset+size(a.Dims) > size(target.Dims) {
			want = api.ErrRange
		}
	}
	initial := num(p.rand.Intn(2))
	n, e := p.r.Make(a, initial)
	if p.same("Make", e, want) {
		p.m.arrays = append(p.m.arrays, a)
		p.m.own = append(p.m.own, nil)
		if a.Target < 0 {
			p.m.own[n] = fresh(size(a.Dims), initial)
		}
	}
}

func (p *pair) set() {
	a := p.array()
	cells := p.m.cells(a)
	if len(cells) == 0 {
		return
	}
	i, x := p.rand.Intn(len(cells)), p.element(a)
	*cells[i] = x
	p.same("Set", p.r.Set(a, i, x), api.OK)
}

func (p *pair) adjust() {
	a := p.array()
	x := p.m.arrays[a]
	dims, fill, initial := p.dims(len(x.Dims)), -2, p.element(a)
	if p.rand.Intn(3) == 0 {
		fill = p.rand.Intn(7) - 3
	}
	want := api.OK
	next := x.Fill
	if fill != -2 {
		next = fill
	}
	switch {
	case !x.Adjustable:
		want = api.ErrArg
	case fill != -2 && (fill == -1) != (x.Fill == -1):
		want = array.ErrFill
	case next < -1 || next >= 0 && next > dims[0]:
		want = api.ErrRange
	case !p.m.fits(a, dims):
		want = api.ErrSize
	}
	if p.same("Adjust", p.r.Adjust(a, dims, fill, initial), want) {
		p.m.own[a] = p.m.adjusted(a, dims, initial)
		x.Dims, x.Fill, x.Target, x.Offset = dims, next, -1, 0
		p.m.arrays[a] = x
	}
}

func (p *pair) displace() {
	a, target, offset := p.array(), p.array(), p.rand.Intn(4)
	x := p.m.arrays[a]
	dims := p.dims(len(x.Dims))
	if p.rand.Intn(2) == 0 {
		dims = slices.Clone(x.Dims)
	}
	want := api.OK
	switch {
	case !x.Adjustable:
		want = api.ErrArg
	case p.m.isShown(a, target):
		want = api.ErrOrder
	case x.Bits != p.m.arrays[target].Bits:
		want = array.ErrBits
	case offset+size(dims) > size(p.m.arrays[target].Dims) || x.Fill >= 0 && x.Fill > dims[0]:
		want = api.ErrRange
	case !p.m.fits(a, dims):
		want = api.ErrSize
	}
	if p.same("Displace", p.r.Displace(a, dims, target, offset), want) {
		x.Dims, x.Target, x.Offset = dims, target, offset
		p.m.arrays[a] = x
	}
}

// stack pushes and, often, pops again.
func (p *pair) stack() {
	a := p.array()
	x := p.m.arrays[a]
	element, extend := p.element(a), p.rand.Intn(4)-1
	want := api.OK
	isFull := x.Fill >= 0 && x.Fill == x.Dims[0]
	switch {
	case x.Fill < 0:
		want = array.ErrFill
	case isFull && (!x.Adjustable || extend == 0):
		want = api.ErrFull
	case isFull && extend < 0:
		want = api.ErrRange
	}
	n, e := p.r.Push(a, element, extend)
	if !p.same("Push", e, want) {
		return
	}
	if n != x.Fill {
		p.t.Fatalf("Push = %d", n)
	}
	if isFull {
		dims := []int{x.Dims[0] + extend}
		p.m.own[a] = p.m.adjusted(a, dims, element)
		x.Dims, x.Target, x.Offset = dims, -1, 0
	}
	x.Fill++
	p.m.arrays[a] = x
	*p.m.cells(a)[n] = element
	if p.rand.Intn(3) == 0 {
		return
	}
	got, e := p.r.Pop(a)
	if !forms.Equal(got, element) || !p.same("Pop", e, api.OK) {
		p.t.Fatalf("Pop of Push = %v, %v", got, e)
	}
	p.m.arrays[a].Fill--
}

func (p *pair) boole() {
	op, a, b, into := p.rand.Intn(16), p.array(), p.array(), p.array()
	x, y, z := p.m.arrays[a], p.m.arrays[b], p.m.arrays[into]
	want := api.OK
	if !x.Bits || !y.Bits || !z.Bits {
		want = array.ErrBits
	} else if !slices.Equal(x.Dims, y.Dims) || !slices.Equal(x.Dims, z.Dims) {
		want = array.ErrRank
	}
	if p.same("Boole", p.r.Boole(op, a, b, into), want) {
		for i, cell := range p.m.cells(into) {
			place := 2*int((*p.m.cells(a)[i]).Text[0]-'0') + int((*p.m.cells(b)[i]).Text[0]-'0')
			*cell = num(op >> place & 1)
		}
	}
}

// compare holds all that can be seen of the room against the model.
func (p *pair) compare() {
	places := map[*api.Form][2]int{}
	for a, x := range p.m.arrays {
		of, _ := p.r.Of(a)
		if !slices.Equal(of.Dims, x.Dims) || of.Fill != x.Fill || of.Target != x.Target || of.Offset != x.Offset {
			p.t.Fatalf("Of(%d) = %v; expected %v", a, of, x)
		}
		l, _ := p.r.Contents(a)
		cells := p.m.cells(a)
		if n := len(cells); x.Fill < 0 && len(l) != n || x.Fill >= 0 && len(l) != x.Fill {
			p.t.Fatalf("Contents(%d) has %d of %d elements", a, len(l), n)
		}
		for i, cell := range cells {
			got, _ := p.r.Get(a, i)
			array, at, _ := p.r.Where(a, i)
			place, is := places[cell]
			if !is {
				place = [2]int{array, at}
				places[cell] = place
			}
			if !forms.Equal(got, *cell) || i < len(l) && !forms.Equal(l[i], *cell) || place != [2]int{array, at} {
				p.t.Fatalf("the element %d of %d is %v, in %d, %d; expected %v, in %v", i, a, got, array, at, *cell, place)
			}
		}
	}
	met := map[[2]int]bool{}
	for _, place := range places {
		if met[place] {
			p.t.Fatal("Where is the same for different elements")
		}
		met[place] = true
	}
}

// P11.1, P11.3 and P11.4: whatever is done with a room, it is what the definitions make of it.
func TestModel(t *testing.T) {
	seen := map[string]int{}
	for seed := range 2000 {
		p := &pair{t, array.NewRoom(), &model{}, rand.New(rand.NewSource(int64(seed))), seen}
		for range 60 {
			if len(p.m.arrays) < 2 {
				p.make()
				continue
			}
			[]func(){p.make, p.set, p.set, p.adjust, p.displace, p.stack, p.boole}[p.rand.Intn(7)]()
			p.compare()
		}
	}
	for _, what := range []string{"Make 0", "Make 3", "Make 132", "Adjust 0", "Adjust 1", "Adjust 3", "Adjust 4", "Adjust 131", "Displace 0", "Displace 1", "Displace 3", "Displace 4", "Displace 7", "Displace 132", "Push 0", "Push 3", "Push 9", "Push 131", "Pop 0", "Boole 0", "Boole 130", "Boole 132"} {
		if seen[what] < 5 {
			t.Errorf("%s was met %d times", what, seen[what])
		}
	}
}

// P11.5: Adjust to the same dimensions changes no element, but ends a displacement; to greater ones and back it leaves the Contents.
func TestAdjustAndBack(t *testing.T) {
	for _, dims := range [][]int{nil, {4}, {2, 3}, {1, 2, 2}, {0, 3}} {
		r := array.NewRoom()
		a := mustMake(t, r, own(10), num(0))
		count(t, r, a, 0)
		b := mustMake(t, r, shown(a, 2, dims...), num(0))
		before := texts(t, r, b)
		is(t, "Adjust", r.Adjust(b, dims, -2, num(99)), api.OK)
		if of, _ := r.Of(b); texts(t, r, b) != before || of.Target != -1 || of.Offset != 0 {
			t.Errorf("%v: Adjust to the same dimensions: %s, %v", dims, texts(t, r, b), of)
		}
		greater := slices.Clone(dims)
		for i := range greater {
			greater[i] += i + 1
		}
		is(t, "Adjust", r.Adjust(b, greater, -2, num(99)), api.OK)
		is(t, "Adjust", r.Adjust(b, dims, -2, num(77)), api.OK)
		if texts(t, r, b) != before || texts(t, r, a) != "0 1 2 3 4 5 6 7 8 9" {
			t.Errorf("%v: Adjust there and back: %s", dims, texts(t, r, b))
		}
	}
}
