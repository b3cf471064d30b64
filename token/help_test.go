package token_test

import (
	"iter"
	"math/rand"
	"slices"
	"strings"
	"testing"

	"commonform/api"
	"commonform/token"
)

var cases = []int{token.Upcase, token.Downcase, token.Preserve, token.Invert}

// with returns a readtable in which characters are of other kinds: pairs of a character and the digit of a kind.
func with(t *testing.T, mode int, pairs string) token.Table {
	t.Helper()
	x := token.Table{Case: mode}
	l := []rune(pairs)
	for i := 0; i < len(l); i += 2 {
		y, e := token.Set(x, l[i], int(l[i+1]-'0'))
		if e != api.OK {
			t.Fatalf("Set of %q: %v", l[i], e)
		}
		x = y
	}
	return x
}

// tables yields readtables of all kinds, in each case.
func tables(t *testing.T) iter.Seq[token.Table] {
	all := []string{"", "!5", "!6", "!5$6", "|2", "\\2", "|2\\2", "|3", "\\1", "#2", "#3:4", ":3", ":1", ":4", ":0", "a6", "a5", "a1b3", "A6B5", ".3", "1213", "15", "16", " 2", "(2)2", "\"5", "\x012", "é1ß6", "\U0001F6005", "|5\\6", "!6$6|1\\1\"5'5", ":5", ":6", "a0", "B0"}
	return func(yield func(token.Table) bool) {
		for _, pairs := range all {
			for _, mode := range cases {
				if !yield(with(t, mode, pairs)) {
					return
				}
			}
		}
	}
}

// texts yields all texts of so many of some characters, and shorter ones.
func texts(chars string, most int) iter.Seq[string] {
	return func(yield func(string) bool) {
		l := []string{""}
		for range most + 1 {
			var next []string
			for _, s := range l {
				if !yield(s) {
					return
				}
				for _, c := range chars {
					next = append(next, s+string(c))
				}
			}
			l = next
		}
	}
}

// words yields texts of characters that mean something to readtables.
func words(n, longest int) iter.Seq[string] {
	chars := []rune("abzABZ019+-/.^_:::|\\# ()\"'!$é\U0001F600\x01\n\t")
	return func(yield func(string) bool) {
		r := rand.New(rand.NewSource(6))
		for range n {
			var l []rune
			for range r.Intn(longest + 1) {
				l = append(l, chars[r.Intn(len(chars))])
			}
			if !yield(string(l)) {
				return
			}
		}
	}
}

func sameTokens(a, b token.Token) bool {
	return slices.Equal(a.Chars, b.Chars) && slices.Equal(a.Escaped, b.Escaped) && a.Escapes == b.Escapes
}

func isZeroToken(x token.Token) bool {
	return len(x.Chars) == 0 && len(x.Escaped) == 0 && !x.Escapes
}

func sameTables(a, b token.Table) bool {
	return a.Case == b.Case && slices.Equal(a.Entries, b.Entries)
}

// kind tells the kind of a character, by the definition.
func kind(t token.Table, c rune) int {
	for _, x := range t.Entries {
		if x.Char == c {
			return x.Kind
		}
	}
	switch {
	case strings.ContainsRune("\t\n\f\r ", c):
		return token.White
	case strings.ContainsRune("\"'(),;`", c):
		return token.Terminating
	case c == '#':
		return token.Nonterminating
	case c == '\\':
		return token.Single
	case c == '|':
		return token.Multiple
	case c < 32 || c == 127:
		return token.Invalid
	}
	return token.Constituent
}

// invert changes letters as Invert does.
func invert(s string) string {
	small := strings.ContainsAny(s, "abcdefghijklmnopqrstuvwxyz")
	great := strings.ContainsAny(s, "ABCDEFGHIJKLMNOPQRSTUVWXYZ")
	switch {
	case small && !great:
		return upper(s)
	case great && !small:
		return lower(s)
	}
	return s
}

func upper(s string) string {
	return strings.Map(func(c rune) rune {
		if c >= 'a' && c <= 'z' {
			return c - 32
		}
		return c
	}, s)
}

func lower(s string) string {
	return strings.Map(func(c rune) rune {
		if c >= 'A' && c <= 'Z' {
			return c + 32
		}
		return c
	}, s)
}

var longText = strings.Repeat("a", api.MaxSource+1)
