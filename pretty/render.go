package pretty

import (
	"bytes"
	"strings"

	"commonform/api"
)

// A block is open while the operations between its Open and its Close are gone through.
type block struct {
	prefix      string
	isRepeated  bool // the prefix stands in each line
	column      int  // in which it stood in the first line
	start       int
	indentation int
	isLong      bool
	isMiser     bool
	fits        bool // whether the last section so far fits in the column in which it began
	feeds       int  // the line feeds ahead of this section
}

// A page is what was rendered so far.
type page struct {
	ops       []Op
	width     int
	miser     int
	text      []byte
	column    int
	feeds     int
	blocks    []*block
	isTooLong bool
}

// Render returns the text of operations in lines of a width.
func Render(l []Op, width, miser int) (string, api.Errno) {
	if e := Check(l); e != api.OK {
		return "", e
	}
	if width < 1 || width > maxWidth || miser < 0 || miser > maxWidth {
		return "", api.ErrArg
	}
	p := &page{ops: l, width: width, miser: miser}
	p.open(Op{}, !p.fit(0, 0, false))
	p.begin(0)
	for i, x := range l {
		p.perform(i, x)
		if p.isTooLong {
			return "", api.ErrLarge
		}
	}
	if len(p.text) > maxText {
		return "", api.ErrLarge
	}
	return string(p.text), api.OK
}

// fit reports whether a section, which begins with an operation, fits in a column; or all operations from there on, as one section.
func (p *page) fit(from, column int, isSection bool) bool {
	depth, outermost := 0, 0 // of the blocks around, seen from the section's one
	isBroken := false
	measure := func(s string) {
		for _, c := range s {
			column++
			isBroken = isBroken || c == '\n'
		}
	}
stretch:
	for _, x := range p.ops[from:] {
		switch x.Kind {
		case Newline:
			if isSection && depth == outermost {
				break stretch
			}
			isBroken = isBroken || x.N == Mandatory
		case Open:
			depth++
		case Close:
			depth--
			outermost = min(outermost, depth)
		}
		measure(x.flat(column))
		if isBroken || column > p.width {
			return false
		}
	}
	return column <= p.width
}

func (p *page) innermost() *block {
	return p.blocks[len(p.blocks)-1]
}

// open begins a block whose prefix was appended.
func (p *page) open(x Op, isLong bool) {
	p.blocks = append(p.blocks, &block{
		prefix:      x.Text,
		isRepeated:  x.Flag,
		column:      p.column - behind(x.Text, 0),
		start:       p.column,
		indentation: p.column,
		isLong:      isLong,
		isMiser:     p.width-p.column <= p.miser,
	})
}

// begin begins a section of the innermost block with an operation.
func (p *page) begin(i int) {
	b := p.innermost()
	b.fits = p.fit(i, p.column, true)
	b.feeds = p.feeds
}

// add appends a text.
func (p *page) add(s string) {
	p.text = append(p.text, s...)
	p.column = behind(s, p.column)
	p.feeds += strings.Count(s, "\n")
}

// fill appends spaces up to a column.
func (p *page) fill(column int) {
	p.add(strings.Repeat(" ", max(0, column-p.column)))
}

// perform performs an operation.
func (p *page) perform(i int, x Op) {
	b := p.innermost()
	p.add(x.flat(p.column))
	switch x.Kind {
	case Open:
		p.open(x, !b.fits)
		p.begin(i + 1)
	case Close:
		p.blocks = p.blocks[:len(p.blocks)-1]
	case Indent:
		b.indent(x, p.column)
	case Newline:
		if p.breaks(i, x.N) {
			p.breakLine()
		}
		p.begin(i + 1)
	}
}

// indent changes the indentation of a block.
func (b *block) indent(x Op, column int) {
	if b.isMiser {
		return
	}
	from := b.start
	if x.Flag {
		from = column
	}
	b.indentation = max(0, from+x.N)
}

// breaks reports whether a newline breaks the line.
func (p *page) breaks(i, kind int) bool {
	b := p.innermost()
	is := false
breaking:
	switch kind {
	case Mandatory:
		is = true
	case Linear:
		is = b.isLong
	case Miser:
		is = b.isLong && b.isMiser
	case Fill:
		is = true
		if p.feeds > b.feeds || b.isLong && b.isMiser {
			break breaking
		}
		is = !p.fit(i+1, p.column, true)
	}
	return is
}

// breakLine ends the present line, and begins the next one of the innermost block.
func (p *page) breakLine() {
	p.text = bytes.TrimRight(p.text, " ")
	// Only the spaces at its end could have made it shorter.
	p.isTooLong = len(p.text) > maxText
	p.add("\n")
	for _, b := range p.blocks {
		if b.isRepeated {
			p.fill(b.column)
			p.add(b.prefix)
		}
	}
	p.fill(p.innermost().indentation)
}
