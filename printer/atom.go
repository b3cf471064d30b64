package printer

import (
	"slices"
	"strconv"
	"strings"
	"unicode/utf8"

	"commonform/api"
	"commonform/forms"
	"commonform/number"
	"commonform/token"
)

// limited returns a text, if it is not too long.
func limited(s string, e api.Errno) (string, api.Errno) {
	switch {
	case e != api.OK:
		return "", e
	case len(s) > maxText:
		return "", api.ErrLarge
	}
	return s, api.OK
}

// Symbol returns the text of a symbol.
func Symbol(o Options, f api.Form) (string, api.Errno) {
	if e := Check(o); e != api.OK {
		return "", e
	}
	if f.Kind != api.FormSymbol {
		return "", api.ErrType
	}
	if e := forms.Check(f); e != api.OK {
		return "", e
	}
	return limited(symbol(o, f))
}

func symbol(o Options, f api.Form) (string, api.Errno) {
	switch {
	case !o.Escape:
		return token.Back(o.Table, f.Text)
	case f.Home == "":
		text, e := token.Escaped(o.Table, f.Text, o.Base)
		if e != api.OK {
			return "", e
		}
		return "#:" + text, api.OK
	}
	return token.Written(o.Table, nameOf(o, f), o.Base)
}

// nameOf returns how a symbol of a package is named.
func nameOf(o Options, f api.Form) token.Name {
	switch {
	case f.Home == "KEYWORD":
		return token.Name{Kind: token.Keyword, Name: f.Text}
	case f.Home == o.Package || slices.Contains(o.Uses, f.Home):
		return token.Name{Kind: token.Symbol, Name: f.Text}
	case slices.Contains(o.External, External{f.Home, f.Text}):
		return token.Name{Kind: token.External, Package: f.Home, Name: f.Text}
	}
	return token.Name{Kind: token.Internal, Package: f.Home, Name: f.Text}
}

// Character returns the text of a character.
func Character(o Options, c rune) (string, api.Errno) {
	if e := Check(o); e != api.OK {
		return "", e
	}
	if !utf8.ValidRune(c) {
		return "", api.ErrArg
	}
	return character(o, c), api.OK
}

func character(o Options, c rune) string {
	if !o.Escape {
		return string(c)
	}
	return "#\\" + characterName(c)
}

func characterName(c rune) string {
	switch c {
	case 0:
		return "Null"
	case 8:
		return "Backspace"
	case 9:
		return "Tab"
	case 10:
		return "Newline"
	case 12:
		return "Page"
	case 13:
		return "Return"
	case 32:
		return "Space"
	case 127:
		return "Rubout"
	}
	if c < 32 || c >= 128 && c <= 159 {
		const digits = 4
		hex := strings.ToUpper(strconv.FormatInt(int64(c), 16))
		return "U" + strings.Repeat("0", digits-len(hex)) + hex
	}
	return string(c)
}

// String returns the text of a string.
func String(o Options, s string) (string, api.Errno) {
	if e := Check(o); e != api.OK {
		return "", e
	}
	if !utf8.ValidString(s) {
		return "", api.ErrForm
	}
	return limited(quoted(o, s))
}

// quoted returns the text of a string without an error.
func quoted(o Options, s string) (string, api.Errno) {
	if !o.Escape {
		return s, api.OK
	}
	single, isThere := leastSingle(o.Table)
	b := strings.Builder{}
	b.WriteByte('"')
	for _, c := range s {
		if c == '"' || isSingle(o.Table, c) {
			if !isThere {
				return "", ErrReadable
			}
			b.WriteRune(single)
		}
		b.WriteRune(c)
	}
	b.WriteByte('"')
	return b.String(), api.OK
}

func isSingle(t token.Table, c rune) bool {
	kind, _ := token.Kind(t, c)
	return kind == token.Single
}

// leastSingle returns the Single character with the least code, and whether there is one.
func leastSingle(t token.Table) (rune, bool) {
	const standard = '\\'
	least, some := rune(standard), isSingle(t, standard)
	for _, x := range t.Entries {
		if x.Kind == token.Single && (!some || x.Char < least) {
			least, some = x.Char, true
		}
	}
	return least, some
}

// isAtom reports whether a form is written without others within it.
func isAtom(f api.Form) bool {
	switch f.Kind {
	case api.FormSymbol, api.FormChar, api.FormString, api.FormBits:
		return true
	}
	return forms.Number(f)
}

// atom returns the text of an atom without an error.
func atom(o Options, f api.Form) (string, api.Errno) {
	switch f.Kind {
	case api.FormSymbol:
		return symbol(o, f)
	case api.FormChar:
		c, _ := utf8.DecodeRuneInString(f.Text)
		return character(o, c), api.OK
	case api.FormString:
		return quoted(o, f.Text)
	case api.FormBits:
		return bits(o, f)
	}
	return number.Print(f, o.Base, o.Radix, o.Double)
}

func bits(o Options, f api.Form) (string, api.Errno) {
	switch {
	case o.Array:
		return "#*" + f.Text, api.OK
	case o.Readable:
		return "", ErrReadable
	}
	return "#<BIT-VECTOR>", api.OK
}
