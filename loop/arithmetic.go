package loop

import (
	"strconv"

	"commonform/api"
	"commonform/forms"
)

// Parts of an arithmetic clause: the indices of its forms.
const (
	first = iota
	limit
	step
	how
)

// A preposition is a word of an arithmetic clause: the part that the form behind it is, and what it says of the direction.
type preposition struct {
	part              int
	up, down, without bool
}

// prepositions are those of all words.
func prepositions() map[string]preposition {
	return map[string]preposition{
		"FROM":     {part: first},
		"UPFROM":   {part: first, up: true},
		"DOWNFROM": {part: first, down: true},
		"TO":       {part: limit},
		"UPTO":     {part: limit, up: true},
		"BELOW":    {part: limit, up: true, without: true},
		"DOWNTO":   {part: limit, down: true},
		"ABOVE":    {part: limit, down: true, without: true},
		"BY":       {part: step},
	}
}

func integer(n int) api.Form { return api.Form{Kind: api.FormInt, Text: strconv.Itoa(n)} }

// arithmetic takes the words and forms of an arithmetic clause: it returns first, limit, step and how.
func (r *reader) arithmetic() ([]api.Form, bool) {
	parts := []api.Form{integer(0), forms.Nil(), integer(1), {}}
	var met [how]bool
	var all preposition
	known := prepositions()
	for {
		p, ok := known[r.word()]
		if !ok {
			break
		}
		r.take()
		x, ok := r.take()
		if !ok || met[p.part] {
			return nil, false
		}
		met[p.part] = true
		parts[p.part] = x
		all.up = all.up || p.up
		all.down = all.down || p.down
		all.without = all.without || p.without
	}
	parts[how] = integer(all.number())
	return parts, met != [how]bool{} && (!all.down || !all.up && met[first])
}

// number returns the number that says how.
func (p preposition) number() int {
	n := 0
	if p.down {
		n += down
	}
	if p.without {
		n += without
	}
	return n
}
