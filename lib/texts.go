package lib

import (
	"strings"
	"unicode/utf8"

	"commonform/api"
	"commonform/heap"
)

// letters makes the body of a function that moves the letters from one on by an offset.
func letters(first, offset rune) body {
	const count = 26
	return one(func(a []heap.Word) heap.Word {
		c, _ := a[0].Character()
		if c >= first && c < first+count {
			c += offset
		}
		return character(c)
	})
}

// character returns the word of a character that is one.
func character(c rune) heap.Word {
	x, _ := heap.Char(c)
	return x
}

func (w *World) onCharacters() map[string]body {
	return map[string]body{
		"CHAR-CODE": one(func(a []heap.Word) heap.Word {
			c, _ := a[0].Character()
			return fixnum(int(c))
		}),
		"CODE-CHAR": one(func(a []heap.Word) heap.Word {
			n := count(a[0])
			if n > utf8.MaxRune {
				return heap.Nil
			}
			x, e := heap.Char(rune(n))
			if e != api.OK {
				return heap.Nil
			}
			return x
		}),
		"CHAR-UPCASE":   letters('a', 'A'-'a'),
		"CHAR-DOWNCASE": letters('A', 'a'-'A'),
		"CHAR": one(func(a []heap.Word) heap.Word {
			l := []rune(w.text(a[0]))
			n := count(a[1])
			if n >= len(l) {
				w.failType(a[1], "INTEGER")
			}
			return character(l[n])
		}),
	}
}

func (w *World) onStrings() map[string]body {
	return map[string]body{
		"STRING=": w.predicate(func(a []heap.Word) bool { return w.text(a[0]) == w.text(a[1]) }),
		"STRING<": one(func(a []heap.Word) heap.Word { return less([]rune(w.text(a[0])), []rune(w.text(a[1]))) }),
		"CONCAT": one(func(a []heap.Word) heap.Word {
			var b strings.Builder
			for _, x := range a {
				b.WriteString(w.text(x))
			}
			return w.string(b.String())
		}),
		"SUBSEQ": one(w.section),
		"STRING": one(func(a []heap.Word) heap.Word { return w.asString(a[0]) }),
	}
}

// less returns the index of the first difference, if the first string is less by it, and otherwise NIL.
func less(s, t []rune) heap.Word {
	for i, c := range t {
		switch {
		case i == len(s) || s[i] < c:
			return fixnum(i)
		case s[i] > c:
			return heap.Nil
		}
	}
	return heap.Nil
}

func (w *World) asString(x heap.Word) heap.Word {
	if w.isString(x) {
		return x
	}
	if c, ok := x.Character(); ok {
		return w.string(string(c))
	}
	_, name, e := w.Name(x)
	if e != api.OK {
		w.failType(x, "STRING")
	}
	return w.string(name)
}

// section returns a part of a sequence.
func (w *World) section(a []heap.Word) heap.Word {
	x := a[0]
	n := w.length(x)
	from, to := count(a[1]), n
	if from > n {
		w.failType(a[1], "INTEGER")
	}
	if len(a) > 2 {
		if to = count(a[2]); to > n || to < from {
			w.failType(a[2], "INTEGER")
		}
	}
	switch w.heap.Kind(x) {
	case heap.KindString:
		return w.string(string([]rune(w.text(x))[from:to]))
	case heap.KindBits:
		return w.raw(heap.KindBits, w.text(x)[from:to])
	case heap.KindVector:
		return w.make(heap.KindVector, w.fields(x)[from:to]...)
	}
	return w.list(w.elements(x)[from:to], heap.Nil)
}
