package symbols

import (
	"slices"
	"strconv"
	"strings"

	"commonform/api"
)

const (
	maxText = 200000 // bytes
	nothing = "-"
	hexes   = "0123456789abcdef"
)

// Text returns all of a table as a text.
func (t *Table) Text() string {
	if t.isNil() {
		return ""
	}
	b := strings.Builder{}
	line := func(words ...string) {
		b.WriteString(strings.Join(words, " "))
		b.WriteByte('\n')
	}
	for _, x := range t.symbols {
		home := nothing
		if x.home != "" {
			home = writeName(x.home)
		}
		line("symbol", writeName(x.name), home)
	}
	for _, name := range t.Packages() {
		p, _ := t.Package(name)
		line("package", writeName(p.Name), writeList(p.Nicknames, writeName), writeList(p.Uses, writeName),
			writeList(p.Internal, strconv.Itoa), writeList(p.External, strconv.Itoa), writeList(p.Shadowing, strconv.Itoa))
	}
	return b.String()
}

func writeName(s string) string {
	l := []byte{'x'}
	for _, c := range []byte(s) {
		l = append(l, hexes[c>>4], hexes[c&15])
	}
	return string(l)
}

func writeList[T any](l []T, write func(T) string) string {
	if len(l) == 0 {
		return nothing
	}
	var words []string
	for _, x := range l {
		words = append(words, write(x))
	}
	return strings.Join(words, ",")
}

// readName returns the name of a word, and whether there is one.
func readName(word string) (string, bool) {
	digits, is := strings.CutPrefix(word, "x")
	if !is || len(digits)%2 != 0 || len(digits)/2 > api.MaxName {
		return "", false
	}
	var l []byte
	for pair := range slices.Chunk([]byte(digits), 2) {
		high, low := strings.IndexByte(hexes, pair[0]), strings.IndexByte(hexes, pair[1])
		if high < 0 || low < 0 {
			return "", false
		}
		l = append(l, byte(high<<4|low))
	}
	return string(l), true
}

func readNumber(word string) (int, bool) {
	n, err := strconv.Atoi(word)
	return n, err == nil
}

func readList[T any](word string, read func(string) (T, bool)) ([]T, bool) {
	if word == nothing {
		return nil, true
	}
	var l []T
	for part := range strings.SplitSeq(word, ",") {
		x, is := read(part)
		if !is {
			return nil, false
		}
		l = append(l, x)
	}
	return l, true
}

// Parse returns the table with a text.
func Parse(s string) (*Table, api.Errno) {
	if len(s) > maxText {
		return nil, api.ErrSize
	}
	t := &Table{names: map[string]*pack{}}
	lines, is := readLines(s)
	// Another text for the same table is none: so the order, the digits and the words need not be looked at on their own.
	if !is || !t.build(lines) || !t.isRight() || t.Text() != s {
		return nil, api.ErrForm
	}
	return t, api.OK
}

// readLines returns the words of each line.
func readLines(s string) ([][]string, bool) {
	var lines [][]string
	for line := range strings.Lines(s) {
		words := strings.Split(strings.TrimSuffix(line, "\n"), " ")
		isSymbol := words[0] == "symbol" && len(words) == 3
		isPackage := words[0] == "package" && len(words) == 7
		if !isSymbol && !isPackage {
			return nil, false
		}
		lines = append(lines, words)
	}
	return lines, true
}

// build adds the symbols and the packages of lines, as far as these can be of any table, and reports whether they can.
func (t *Table) build(lines [][]string) bool {
	for _, words := range lines {
		if words[0] == "symbol" && !t.buildSymbol(words[1], words[2]) || words[0] == "package" && !t.buildPackage(words[1], words[2]) {
			return false
		}
	}
	if len(t.symbols) > api.MaxSymbols || len(t.packages) > maxPackages {
		return false
	}
	for _, words := range lines {
		if words[0] == "package" && !t.fillPackage(words) {
			return false
		}
	}
	return true
}

func (t *Table) buildSymbol(name, home string) bool {
	x := symbol{}
	is, hasHome := false, true
	x.name, is = readName(name)
	if home != nothing {
		x.home, hasHome = readName(home)
	}
	t.symbols = append(t.symbols, x)
	return is && hasHome
}

// buildPackage adds a package that has nothing but its names.
func (t *Table) buildPackage(word, nicks string) bool {
	name, is := readName(word)
	nicknames, are := readList(nicks, readName)
	if !is || !are || name == "" || t.areTaken(append([]string{name}, nicknames...)) {
		return false
	}
	t.add(name, nicknames, nil)
	return true
}

// fillPackage gives a package what it uses, and its symbols.
func (t *Table) fillPackage(words []string) bool {
	name, _ := readName(words[1])
	p := t.names[name]
	uses, is := readList(words[3], readName)
	if !is {
		return false
	}
	used, e := t.findUsed(uses)
	if e != api.OK || slices.Contains(used, p) {
		return false
	}
	p.uses = used
	internal, is := readList(words[4], readNumber)
	external, are := readList(words[5], readNumber)
	shadowing, all := readList(words[6], readNumber)
	if !is || !are || !all {
		return false
	}
	for _, n := range slices.Concat(internal, external) {
		if !t.has(n) {
			return false
		}
		if _, some := p.present[t.symbols[n].name]; some {
			return false
		}
		p.present[t.symbols[n].name] = n
	}
	for _, n := range external {
		p.external[n] = true
	}
	for _, n := range shadowing {
		p.shadowing[n] = true
	}
	return true
}

// isRight reports whether a table that was built is right.
func (t *Table) isRight() bool {
	if !t.hasFirst() {
		return false
	}
	for _, p := range t.packages {
		for n := range p.shadowing {
			if !t.has(n) || !p.hasPresent(n, t.symbols[n].name) {
				return false
			}
		}
		if t.hasConflict(p) {
			return false
		}
	}
	for n, x := range t.symbols {
		if x.home == "" {
			continue
		}
		if p, some := t.names[x.home]; !some || p.name != x.home || !p.hasPresent(n, x.name) {
			return false
		}
	}
	return true
}

// hasFirst reports whether the first packages are those of New.
func (t *Table) hasFirst() bool {
	first := New()
	for i, p := range first.packages {
		if i >= len(t.packages) || t.packages[i].name != p.name || !slices.Equal(t.packages[i].nicknames, p.nicknames) {
			return false
		}
	}
	return true
}

func (p *pack) hasPresent(n int, name string) bool {
	k, is := p.present[name]
	return is && k == n
}
