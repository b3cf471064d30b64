package types

import (
	"slices"
	"strconv"
	"strings"

	"commonform/api"
	"commonform/forms"
)

const (
	wordBits = 64
	// maxAsked is above the number of CONS that may stand in all types of one call: each has at least four nodes.
	maxAsked = 256
)

// Marks are bits for the types that are asked together.
type marks [maxAsked / wordBits]uint64

func (m marks) has(i int) bool {
	return m[i/wordBits]>>(i%wordBits)&1 == 1
}

func (m *marks) set(i int) {
	m[i/wordBits] |= 1 << (i % wordBits)
}

func (m marks) and(other marks) marks {
	for i, word := range other {
		m[i] &= word
	}
	return m
}

// marksOf returns the bits of the types for which a function holds.
func marksOf(specs []*spec, holds func(*spec) bool) marks {
	var m marks
	for i, s := range specs {
		if holds(s) {
			m.set(i)
		}
	}
	return m
}

// A class has objects for which some types answer the same.
type class struct {
	answers marks
	sample  api.Form
}

// A parting finds the classes of some types.
type parting struct {
	specs   []*spec
	classes []class
	met     map[marks]bool
}

// add adds a class for answers that were not met yet.
func (p *parting) add(answers marks, sample func() api.Form) {
	if !p.met[answers] {
		p.met[answers] = true
		p.classes = append(p.classes, class{answers, sample()})
	}
}

// classesOf returns all classes of objects that some types tell apart.
func classesOf(specs []*spec) []class {
	p := &parting{specs: specs, met: map[marks]bool{}}
	if len(specs) == 0 {
		p.add(marks{}, forms.Nil) // every object: the recursion ends here
		return p.classes
	}
	for x := range atoms(specs) {
		answers := marksOf(specs, func(s *spec) bool { return s.has(x) })
		p.add(answers, func() api.Form { return x })
	}
	p.conses()
	return p.classes
}

// conses adds the classes of conses: what a type tells of a cons follows from the classes of its parts.
func (p *parting) conses() {
	var cars, cdrs []*spec
	for s := range leaves(p.specs) {
		if s.op == opCons {
			s.place = len(cars)
			cars = append(cars, s.parts[0])
			cdrs = append(cdrs, s.parts[1])
		}
	}
	rests := p.distinct(classesOf(cdrs), cars)
	met := map[marks]bool{}
	for _, first := range p.distinct(classesOf(cars), cdrs) {
		for _, rest := range rests {
			both := first.answers.and(rest.answers)
			if met[both] {
				continue
			}
			met[both] = true
			answers := marksOf(p.specs, func(s *spec) bool { return s.hasCons(both) })
			p.add(answers, func() api.Form { return forms.Dotted([]api.Form{first.sample}, rest.sample) })
		}
	}
}

// distinct returns classes of one part of conses, but of those that leave the same question about the other part, which is asked for some types, just one: there may be very many.
func (p *parting) distinct(l []class, others []*spec) []class {
	certain := marksOf(others, (*spec).isEverything)
	met := map[string]bool{}
	return slices.DeleteFunc(l, func(c class) bool {
		var questions []string
		for _, s := range p.specs {
			questions = append(questions, s.question(c.answers, certain))
		}
		key := strings.Join(questions, " ")
		is := met[key]
		met[key] = true
		return is
	})
}

func (s *spec) isEverything() bool {
	return s.op == opKinds && s.kinds == everything
}

// The questions whose answers are known.
const (
	yes = "+"
	no  = "-"
)

// question returns a text of what is left to be known of a cons, if one part of it is of some types, and the other one certainly is of some.
func (s *spec) question(known, certain marks) string {
	switch s.op {
	case opCons:
		switch {
		case !known.has(s.place):
			return no
		case certain.has(s.place):
			return yes
		}
		return strconv.Itoa(s.place)
	case opAnd:
		return joined(s.parts, yes, no, "(&", known, certain)
	case opOr:
		return joined(s.parts, no, yes, "(|", known, certain)
	case opNot:
		switch q := s.parts[0].question(known, certain); q {
		case yes:
			return no
		case no:
			return yes
		default:
			return "!" + q
		}
	}
	if s.hasCons(known) {
		return yes
	}
	return no
}

// joined returns the question of several parts, of which those with one answer do not matter, and one with the other answer decides.
func joined(parts []*spec, idle, decisive, mark string, known, certain marks) string {
	text := ""
	for _, part := range parts {
		switch q := part.question(known, certain); q {
		case decisive:
			return decisive
		case idle:
		default:
			text += " " + q
		}
	}
	if text == "" {
		return idle
	}
	return mark + text + ")"
}

// hasCons reports whether a cons is of the type, of which it is known for which CONS it is.
func (s *spec) hasCons(known marks) bool {
	switch s.op {
	case opKinds:
		return s.kinds.has(aCons)
	case opCons:
		return known.has(s.place)
	case opAnd, opOr, opNot:
		return s.combined(func(part *spec) bool { return part.hasCons(known) })
	}
	return false
}
