package lib

import (
	"slices"
	"strings"

	"commonform/api"
)

// signatures are all builtin functions with the types of their arguments: [r] may be left out, r.. are any number.
const signatures = `CONS x x
CAR l
CDR l
RPLACA d x
RPLACD d x
LIST x..
LIST* x x..
CONSP x
ATOM x
LISTP x
NULL x
NOT x
APPEND x..
REVERSE p
NTH k l
NTHCDR k l
LAST l
LENGTH q
MEMBER x p
ASSOC x p
COPY-LIST p
EQ x x
EQL x x
EQUAL x x
EQUALP x x
SYMBOLP x
KEYWORDP x
NUMBERP x
INTEGERP x
RATIONALP x
REALP x
FLOATP x
COMPLEXP x
CHARACTERP x
STRINGP x
BIT-VECTOR-P x
VECTORP x
ARRAYP x
FUNCTIONP x
HASH-TABLE-P x
+ n..
* n..
- n n..
/ n n..
= n n..
/= n n..
< r r..
<= r r..
> r r..
>= r r..
MAX r r..
MIN r r..
ABS r
FLOOR r [r]
CEILING r [r]
TRUNCATE r [r]
ROUND r [r]
MOD r r
REM r r
GCD i..
LCM i..
LOGAND i..
LOGIOR i..
LOGXOR i..
LOGNOT i
ASH i i
EXPT n i
NUMERATOR a
DENOMINATOR a
COMPLEX r [r]
REALPART n
IMAGPART n
RATIONAL r
RATIONALIZE r
FLOAT r [r]
SYMBOL-NAME s
SYMBOL-PACKAGE s
SYMBOL-VALUE s
SET s x
BOUNDP s
MAKUNBOUND s
SYMBOL-FUNCTION s
%FSET s g
FBOUNDP s
FMAKUNBOUND s
SYMBOL-PLIST s
%SET-PLIST s x
INTERN t [t]
FIND-SYMBOL t [t]
MAKE-SYMBOL t
GENSYM [t]
CHAR-CODE c
CODE-CHAR k
CHAR-UPCASE c
CHAR-DOWNCASE c
CHAR t k
STRING= t t
STRING< t t
CONCAT t..
SUBSEQ q k [k]
STRING x
VECTOR x..
MAKE-ARRAY x [x]
AREF v k..
%ASET v k.. x
ARRAY-DIMENSIONS v
ARRAY-RANK v
MAKE-HASH-TABLE s
GETHASH x h [x]
%PUTHASH x h x
REMHASH x h
CLRHASH h
HASH-TABLE-COUNT h
HASH-KEYS h
TYPEP x x
SUBTYPEP x x
FUNCALL g x..
APPLY g x x..
VALUES x..
IDENTITY x
PRIN1 x
PRINC x
PRINT x
TERPRI
WRITE-STRING t
PRIN1-TO-STRING x
PRINC-TO-STRING x
READ-FROM-STRING t
FORMAT x t x..`

// A signature says which arguments a builtin function takes, by the letters of their types.
type signature struct {
	name               string
	required, optional string
	rest, last         byte // that of any number of arguments, and that of one behind them; 0 for none
}

// readSignatures returns those of all builtin functions, in order.
func readSignatures() []signature {
	var all []signature
	for line := range strings.Lines(signatures) {
		words := strings.Fields(line)
		s := signature{name: words[0]}
		for _, word := range words[1:] {
			s.add(word)
		}
		all = append(all, s)
	}
	return all
}

// add takes over the type of the next argument.
func (s *signature) add(word string) {
	switch {
	case word[0] == '[':
		s.optional += word[1:2]
	case strings.HasSuffix(word, ".."):
		s.rest = word[0]
	case s.rest != 0:
		s.last = word[0]
	default:
		s.required += word
	}
}

// An arity says how many arguments there are at least, and at most, or -1 for any number.
type arity struct{ least, most int }

func (s signature) arity() arity {
	least := len(s.required)
	if s.last != 0 {
		least++
	}
	if s.rest != 0 {
		return arity{least, -1}
	}
	return arity{least, least + len(s.optional)}
}

func (a arity) takes(n int) bool { return n >= a.least && (a.most == -1 || n <= a.most) }

// typeOf returns the letter of the type of an argument, of which there are n.
func (s signature) typeOf(i, n int) byte {
	types := s.required + s.optional
	switch {
	case s.last != 0 && i == n-1:
		return s.last
	case i < len(types):
		return types[i]
	}
	return s.rest
}

// typeNames returns the names of the types of arguments, in order.
func typeNames() []string {
	return []string{"LIST", "SEQUENCE", "SYMBOL", "NUMBER", "REAL", "RATIONAL", "INTEGER", "UNSIGNED-BYTE", "CHARACTER", "STRING", "ARRAY", "HASH-TABLE", "CONS", "FUNCTION"}
}

// typeName returns the name of a type by its letter.
func typeName(letter byte) string {
	if letter == 'p' {
		return "LIST"
	}
	return typeNames()[strings.IndexByte("lqsnraikctvhdg", letter)]
}

// Names returns the names of all builtin functions, in order.
func Names() []string {
	var names []string
	for _, s := range readSignatures() {
		names = append(names, s.name)
	}
	return names
}

// Arity returns how many arguments a builtin function takes, at least and at most (-1: any number).
func Arity(name string) (least, most int, e api.Errno) {
	all := readSignatures()
	i := slices.IndexFunc(all, func(s signature) bool { return s.name == name })
	if i < 0 {
		return 0, 0, api.ErrNone
	}
	a := all[i].arity()
	return a.least, a.most, api.OK
}
