package symbols_test

import (
	"math"
	"slices"
	"strconv"
	"strings"
	"testing"

	"commonform/api"
	"commonform/symbols"
)

func TestNew(t *testing.T) {
	s := symbols.New()
	if got := strings.Join(s.Packages(), " "); got != "COMMON-LISP KEYWORD COMMON-LISP-USER" {
		t.Errorf("Packages = %s", got)
	}
	want := "package x434f4d4d4f4e2d4c495350 x434c - - - -\npackage x4b4559574f5244 - - - - -\npackage x434f4d4d4f4e2d4c4953502d55534552 x434c2d55534552 x434f4d4d4f4e2d4c495350 - - -\n"
	if got := s.Text(); got != want {
		t.Errorf("Text = %s", got)
	}
	p, e := s.Package("CL")
	if e != api.OK || p.Name != "COMMON-LISP" || !slices.Equal(p.UsedBy, []string{"COMMON-LISP-USER"}) || !slices.Equal(p.Nicknames, []string{"CL"}) {
		t.Errorf("Package = %v, %v", p, e)
	}
	s.Packages()[0] = "X"
	p.Nicknames[0], p.UsedBy[0] = "X", "X"
	if s.Text() != want || s.Packages()[0] != "COMMON-LISP" {
		t.Error("a result shares memory with the table")
	}
}

func TestExamples(t *testing.T) {
	s := symbols.New()
	if n, status, e := s.Intern("CL-USER", "X"); n != 0 || status != symbols.None || e != api.OK {
		t.Errorf("Intern = %d, %d, %v", n, status, e)
	}
	if n, status, e := s.Intern("CL-USER", "X"); n != 0 || status != symbols.Internal || e != api.OK {
		t.Errorf("Intern again = %d, %d, %v", n, status, e)
	}
	if name, home, e := s.Symbol(0); name != "X" || home != "COMMON-LISP-USER" || e != api.OK {
		t.Errorf("Symbol = %q, %q, %v", name, home, e)
	}
	is(t, "Make", s.Make("P", nil, nil), api.OK)
	put(t, s, "P", "X", true)
	is(t, "Use", s.Use("CL-USER", "P"), symbols.ErrClash)
	is(t, "Shadow", s.Shadow("CL-USER", "X"), api.OK)
	is(t, "Use", s.Use("CL-USER", "P"), api.OK)
	finds(t, s, "CL-USER", "X", 0, symbols.Internal)
	n := put(t, s, "KEYWORD", "K", false)
	finds(t, s, "KEYWORD", "K", n, symbols.External)
	finds(t, s, "P", "K", -1, symbols.None)
}

func TestNil(t *testing.T) {
	var none *symbols.Table
	for _, s := range []*symbols.Table{none, {}} {
		n, status, e := s.Intern("P", long)
		m, as, d := s.Find("P", "X")
		if n != 0 || status != 0 || e != api.ErrArg || m != 0 || as != 0 || d != api.ErrArg {
			t.Errorf("Intern and Find = %d, %d, %v, %d, %d, %v", n, status, e, m, as, d)
		}
		ok, e := s.Unintern("P", 0)
		k, d := s.Fresh(long)
		name, home, c := s.Symbol(0)
		if ok || e != api.ErrArg || k != 0 || d != api.ErrArg || name != "" || home != "" || c != api.ErrArg {
			t.Errorf("Unintern, Fresh and Symbol = %v, %v, %d, %v, %q, %q, %v", ok, e, k, d, name, home, c)
		}
		p, e := s.Package("P")
		if p.Name != "" || e != api.ErrArg || len(s.Packages()) > 0 || s.Text() != "" {
			t.Errorf("Package = %v, %v", p, e)
		}
		for what, e := range map[string]api.Errno{"Make": s.Make(long, nil, nil), "Delete": s.Delete("P"), "Export": s.Export("P", 0), "Unexport": s.Unexport("P", 0), "Import": s.Import("P", 0), "Shadow": s.Shadow("P", "X"), "ShadowingImport": s.ShadowingImport("P", 0), "Use": s.Use("P", "Q"), "Unuse": s.Unuse("P", "Q")} {
			is(t, what, e, api.ErrArg)
		}
	}
}

// A text that is too long comes ahead of a package that is none, and this ahead of a symbol that is none; a refused call changes nothing (P10.5).
func TestFirstErrors(t *testing.T) {
	s := made(t, "P", "Q")
	put(t, s, "P", "X", true)
	before := s.Text()
	for i, c := range []struct{ got, want api.Errno }{
		{s.Make(long, []string{"P"}, []string{"?"}), api.ErrSize}, {s.Make("", []string{long}, nil), api.ErrSize}, {s.Make("", nil, []string{"?", long}), api.ErrSize}, {s.Make("", []string{"P"}, []string{"?"}), api.ErrArg}, {s.Make("P", nil, []string{"?"}), api.ErrTwice}, {s.Make("R", []string{"Q"}, []string{"?"}), api.ErrTwice}, {s.Make("R", []string{"R"}, nil), api.ErrTwice}, {s.Make("R", []string{"S", "S"}, nil), api.ErrTwice}, {s.Make("CL", nil, nil), api.ErrTwice}, {s.Make("R", nil, []string{"?", "KEYWORD"}), api.ErrNone}, {s.Make("R", nil, []string{"P", "KEYWORD"}), api.ErrArg}, {s.Make("R", nil, []string{"CL", "P", "COMMON-LISP"}), api.ErrTwice}, {s.Make("R", nil, []string{"R"}), api.ErrNone},
		{s.Delete(long), api.ErrSize}, {s.Delete("?"), api.ErrNone}, {s.Delete("CL"), api.ErrArg}, {s.Delete("KEYWORD"), api.ErrArg}, {s.Delete("CL-USER"), api.ErrArg},
		{s.Export(long, 9), api.ErrSize}, {s.Export("?", 9), api.ErrNone}, {s.Export("P", 1), api.ErrNone}, {s.Export("P", -1), api.ErrNone}, {s.Export("Q", 0), symbols.ErrAccess}, {s.Export("P", math.MaxInt), api.ErrNone},
		{s.Unexport(long, 9), api.ErrSize}, {s.Unexport("?", 0), api.ErrNone}, {s.Unexport("P", 1), api.ErrNone}, {s.Unexport("KEYWORD", 0), symbols.ErrAccess}, {s.Unexport("Q", 0), symbols.ErrAccess},
		{s.Import(long, 9), api.ErrSize}, {s.Import("?", 0), api.ErrNone}, {s.Import("P", 1), api.ErrNone}, {s.Shadow("?", long), api.ErrSize}, {s.Shadow(long, "X"), api.ErrSize}, {s.Shadow("?", "X"), api.ErrNone}, {s.ShadowingImport(long, 0), api.ErrSize}, {s.ShadowingImport("?", 9), api.ErrNone}, {s.ShadowingImport("P", 9), api.ErrNone},
		{s.Use("?", long), api.ErrSize}, {s.Use(long, "P"), api.ErrSize}, {s.Use("?", "P"), api.ErrNone}, {s.Use("P", "?"), api.ErrNone}, {s.Use("P", "P"), api.ErrArg}, {s.Use("P", "KEYWORD"), api.ErrArg}, {s.Use("CL", "COMMON-LISP"), api.ErrArg}, {s.Unuse("?", long), api.ErrSize}, {s.Unuse(long, "P"), api.ErrSize}, {s.Unuse("?", "P"), api.ErrNone}, {s.Unuse("P", "?"), api.ErrNone},
	} {
		if c.got != c.want {
			t.Errorf("call %d: %v; expected %v", i, c.got, c.want)
		}
	}
	for _, c := range []struct {
		pack, name string
		want       api.Errno
	}{{"?", long, api.ErrSize}, {long, "X", api.ErrSize}, {"?", "X", api.ErrNone}} {
		n, status, e := s.Intern(c.pack, c.name)
		m, as, d := s.Find(c.pack, c.name)
		if n != 0 || status != 0 || e != c.want || m != 0 || as != 0 || d != c.want {
			t.Errorf("Intern and Find(%.5q, %.5q): %v, %v; expected %v", c.pack, c.name, e, d, c.want)
		}
	}
	for _, c := range []struct {
		pack string
		n    int
		want api.Errno
	}{{long, 9, api.ErrSize}, {"?", 9, api.ErrNone}, {"P", 9, api.ErrNone}} {
		if ok, e := s.Unintern(c.pack, c.n); ok || e != c.want {
			t.Errorf("Unintern(%.5q, %d) = %v, %v", c.pack, c.n, ok, e)
		}
	}
	if n, e := s.Fresh(long); n != 0 || e != api.ErrSize {
		t.Errorf("Fresh = %d, %v", n, e)
	}
	if p, e := s.Package(long); p.Name != "" || e != api.ErrSize {
		t.Errorf("Package = %v, %v", p, e)
	}
	if p, e := s.Package("?"); p.Name != "" || e != api.ErrNone {
		t.Errorf("Package = %v, %v", p, e)
	}
	for _, n := range []int{-1, 1, math.MinInt} {
		if name, home, e := s.Symbol(n); name != "" || home != "" || e != api.ErrNone {
			t.Errorf("Symbol(%d) = %q, %q, %v", n, name, home, e)
		}
	}
	if s.Text() != before {
		t.Error("a refused call changed the table")
	}
}

func TestMake(t *testing.T) {
	s := symbols.New()
	nicks, uses := []string{"N", ""}, []string{"CL", "CL-USER"}
	is(t, "Make", s.Make(long[1:], nicks, uses), api.OK)
	nicks[0], uses[0] = "CHANGED", "CHANGED"
	p, e := s.Package("")
	if e != api.OK || p.Name != long[1:] || strings.Join(p.Nicknames, " ") != "N " || strings.Join(p.Uses, " ") != "COMMON-LISP COMMON-LISP-USER" {
		t.Errorf("Package = %v, %v", p, e)
	}
	for _, name := range []string{"A", "B"} {
		is(t, "Make", s.Make(name, nil, nil), api.OK)
		put(t, s, name, "X", true)
	}
	is(t, "Make", s.Make("C", nil, []string{"A", "B"}), symbols.ErrClash)
	is(t, "Make", s.Make("C", nil, []string{"A"}), api.OK)
	for i := len(s.Packages()); i < 50; i++ {
		is(t, "Make", s.Make("P"+strconv.Itoa(i), nil, nil), api.OK)
	}
	is(t, "Make of too many", s.Make("Q", nil, nil), api.ErrFull)
	is(t, "Make of too many", s.Make("Q", nil, []string{"A", "B"}), symbols.ErrClash)
	is(t, "Delete", s.Delete("P49"), api.OK)
	is(t, "Make", s.Make("Q", nil, nil), api.OK)
	if l := s.Packages(); len(l) != 50 || l[49] != "Q" {
		t.Errorf("Packages = %v", l)
	}
	if _, e := s.Package("P49"); e != api.ErrNone {
		t.Errorf("Package of one that is gone: %v", e)
	}
}

func TestDelete(t *testing.T) {
	s := symbols.New()
	is(t, "Make", s.Make("P", []string{"N"}, []string{"CL"}), api.OK)
	is(t, "Make", s.Make("Q", nil, []string{"P"}), api.OK)
	n := put(t, s, "P", "X", true)
	is(t, "Import", s.Import("CL-USER", n), api.OK)
	is(t, "Delete", s.Delete("N"), symbols.ErrUsed)
	is(t, "Unuse", s.Unuse("Q", "N"), api.OK)
	is(t, "Delete", s.Delete("N"), api.OK)
	if _, home, _ := s.Symbol(n); home != "" {
		t.Errorf("the home is %q", home)
	}
	finds(t, s, "CL-USER", "X", n, symbols.Internal)
	is(t, "Make with the same names", s.Make("N", []string{"P"}, nil), api.OK)
	finds(t, s, "P", "X", -1, symbols.None)
	// a symbol without a home gets one where it is imported, not where it is present
	is(t, "Import", s.Import("CL-USER", n), api.OK)
	if _, home, _ := s.Symbol(n); home != "" {
		t.Errorf("the home of a present symbol is %q", home)
	}
	is(t, "Import", s.Import("P", n), api.OK)
	if _, home, _ := s.Symbol(n); home != "N" {
		t.Errorf("the home is %q", home)
	}
}

func TestFull(t *testing.T) {
	s := made(t, "P", "Q")
	for i := range api.MaxSymbols - 1 {
		put(t, s, "P", strconv.Itoa(i), false)
	}
	if n, e := s.Fresh("F"); n != 999 || e != api.OK {
		t.Errorf("Fresh = %d, %v", n, e)
	}
	before := s.Text()
	if n, status, e := s.Intern("P", "X"); n != 0 || status != symbols.None || e != api.ErrFull {
		t.Errorf("Intern = %d, %d, %v", n, status, e)
	}
	if n, e := s.Fresh("F"); n != 0 || e != api.ErrFull {
		t.Errorf("Fresh = %d, %v", n, e)
	}
	is(t, "Shadow", s.Shadow("P", "X"), api.ErrFull)
	if s.Text() != before {
		t.Error("a refused call changed the table")
	}
	is(t, "Shadow of a present symbol", s.Shadow("P", "7"), api.OK)
	if n, status, e := s.Intern("P", "7"); n != 7 || status != symbols.Internal || e != api.OK {
		t.Errorf("Intern = %d, %d, %v", n, status, e)
	}
	u, e := symbols.Parse(s.Text())
	if e != api.OK || u.Text() != s.Text() {
		t.Errorf("Parse of a full table: %v", e)
	}
	if _, e := u.Fresh("F"); e != api.ErrFull {
		t.Errorf("Fresh in a full table: %v", e)
	}
}

func TestExport(t *testing.T) {
	s := made(t, "P", "Q", "R")
	is(t, "Use", s.Use("Q", "P"), api.OK)
	is(t, "Use", s.Use("R", "Q"), api.OK)
	n := put(t, s, "P", "X", true)
	finds(t, s, "Q", "X", n, symbols.Inherited)
	finds(t, s, "R", "X", -1, symbols.None) // what is inherited is not inherited on
	is(t, "Export of an inherited symbol", s.Export("Q", n), api.OK)
	finds(t, s, "Q", "X", n, symbols.External)
	finds(t, s, "R", "X", n, symbols.Inherited)
	if _, home, _ := s.Symbol(n); home != "P" {
		t.Errorf("the home is %q", home)
	}
	y := put(t, s, "R", "Y", false)
	m := put(t, s, "Q", "Y", false)
	is(t, "Export", s.Export("Q", m), symbols.ErrClash)
	finds(t, s, "Q", "Y", m, symbols.Internal)
	is(t, "Shadow", s.Shadow("R", "Y"), api.OK)
	is(t, "Export", s.Export("Q", m), api.OK)
	finds(t, s, "R", "Y", y, symbols.Internal)
	if ok, e := s.Unintern("R", y); !ok || e != api.OK {
		t.Errorf("Unintern = %v, %v", ok, e)
	}
	finds(t, s, "R", "Y", m, symbols.Inherited)
	// two used packages must not export different symbols
	is(t, "Make", s.Make("S", nil, nil), api.OK)
	is(t, "Use", s.Use("R", "S"), api.OK)
	k := put(t, s, "S", "Y", false)
	is(t, "Export", s.Export("S", k), symbols.ErrClash)
	is(t, "Unexport", s.Unexport("Q", m), api.OK)
	is(t, "Export", s.Export("S", k), api.OK)
	finds(t, s, "R", "Y", k, symbols.Inherited)
	is(t, "Unexport of an inherited symbol", s.Unexport("R", k), api.OK)
	finds(t, s, "R", "Y", k, symbols.Inherited)
	key := put(t, s, "KEYWORD", "K", false)
	is(t, "Unexport of a keyword", s.Unexport("KEYWORD", key), api.ErrArg)
	finds(t, s, "KEYWORD", "K", key, symbols.External)
}

func TestImport(t *testing.T) {
	s := made(t, "P", "Q")
	n := put(t, s, "P", "X", true)
	is(t, "Import", s.Import("Q", n), api.OK)
	finds(t, s, "Q", "X", n, symbols.Internal)
	m, _ := s.Fresh("X")
	is(t, "Import", s.Import("Q", m), symbols.ErrClash)
	is(t, "Shadow", s.Shadow("Q", "X"), api.OK)
	is(t, "Import over a shadowing symbol", s.Import("Q", m), symbols.ErrClash)
	is(t, "Import into KEYWORD", s.Import("KEYWORD", m), api.OK)
	finds(t, s, "KEYWORD", "X", m, symbols.Internal)
	if _, home, _ := s.Symbol(m); home != "KEYWORD" {
		t.Errorf("the home is %q", home)
	}
	is(t, "Use", s.Use("CL-USER", "P"), api.OK)
	is(t, "Import of an inherited symbol", s.Import("CL-USER", n), api.OK)
	finds(t, s, "CL-USER", "X", n, symbols.Internal)
	is(t, "Import", s.Import("P", n), api.OK)
	finds(t, s, "P", "X", n, symbols.External)
	k, _ := s.Fresh("X")
	is(t, "Import under an inherited name", s.Import("CL-USER", k), symbols.ErrClash)
}

func TestShadowing(t *testing.T) {
	s := made(t, "P", "Q", "R")
	a, b := put(t, s, "P", "X", true), put(t, s, "Q", "X", true)
	is(t, "Shadow", s.Shadow("R", "X"), api.OK)
	is(t, "Use", s.Use("R", "P"), api.OK)
	is(t, "Use", s.Use("R", "Q"), api.OK)
	finds(t, s, "R", "X", 2, symbols.Internal)
	if ok, e := s.Unintern("R", 2); ok || e != symbols.ErrClash {
		t.Errorf("Unintern = %v, %v", ok, e)
	}
	is(t, "ShadowingImport", s.ShadowingImport("R", a), api.OK)
	finds(t, s, "R", "X", a, symbols.Internal)
	if _, home, _ := s.Symbol(2); home != "" {
		t.Errorf("the home of what was uninterned is %q", home)
	}
	p, _ := s.Package("R")
	if !slices.Equal(p.Shadowing, []int{a}) || !slices.Equal(p.Internal, []int{a}) {
		t.Errorf("Package = %v", p)
	}
	is(t, "ShadowingImport", s.ShadowingImport("P", a), api.OK)
	finds(t, s, "P", "X", a, symbols.External)
	is(t, "ShadowingImport", s.ShadowingImport("Q", a), api.OK)
	finds(t, s, "Q", "X", a, symbols.Internal)
	if _, home, _ := s.Symbol(b); home != "" {
		t.Errorf("the home of what was uninterned is %q", home)
	}
	if ok, e := s.Unintern("R", b); ok || e != api.OK {
		t.Errorf("Unintern of what is not present = %v, %v", ok, e)
	}
	// a symbol without a home gets none by shadowing
	is(t, "ShadowingImport", s.ShadowingImport("CL-USER", b), api.OK)
	if _, home, _ := s.Symbol(b); home != "" {
		t.Errorf("the home is %q", home)
	}
	is(t, "Shadow in KEYWORD", s.Shadow("KEYWORD", "S"), api.OK)
	finds(t, s, "KEYWORD", "S", 3, symbols.Internal)
}

// P10.3
func TestIdentity(t *testing.T) {
	s := made(t, "P", "Q", "R")
	var l []int
	for _, name := range []string{"", "A", "a", "\xff", long[1:]} {
		n := put(t, s, "P", name, true)
		again, status, e := s.Intern("P", name)
		if again != n || status != symbols.External || e != api.OK || slices.Contains(l, n) {
			t.Errorf("Intern(%.5q) = %d, %d, %v", name, again, status, e)
		}
		l = append(l, n)
	}
	is(t, "Use", s.Use("Q", "P"), api.OK)
	is(t, "Use", s.Use("R", "P"), api.OK)
	for _, n := range l {
		name, home, _ := s.Symbol(n)
		if home != "P" {
			t.Errorf("the home of %q is %q", name, home)
		}
		finds(t, s, "P", name, n, symbols.External)
		finds(t, s, "Q", name, n, symbols.Inherited)
		finds(t, s, "R", name, n, symbols.Inherited)
		if k, status, e := s.Intern("Q", name); k != n || status != symbols.Inherited || e != api.OK {
			t.Errorf("Intern of an inherited symbol = %d, %d, %v", k, status, e)
		}
	}
}

// P10.4
func TestThereAndBack(t *testing.T) {
	s := made(t, "P", "Q")
	n := put(t, s, "P", "X", false)
	put(t, s, "P", "Y", true)
	before := s.Text()
	is(t, "Use", s.Use("Q", "P"), api.OK)
	is(t, "Use", s.Use("Q", "P"), api.OK)
	is(t, "Unuse", s.Unuse("Q", "P"), api.OK)
	if s.Text() != before {
		t.Error("Use and Unuse change the table")
	}
	is(t, "Unuse", s.Unuse("Q", "P"), api.OK)
	is(t, "Export", s.Export("P", n), api.OK)
	is(t, "Export", s.Export("P", n), api.OK)
	if s.Text() == before {
		t.Error("Export changes nothing")
	}
	is(t, "Unexport", s.Unexport("P", n), api.OK)
	if s.Text() != before {
		t.Error("Export and Unexport change the table")
	}
	is(t, "Unexport", s.Unexport("P", n), api.OK)
	if s.Text() != before {
		t.Error("Unexport of an internal symbol changes the table")
	}
}
