package impl

import (
	"iter"
	"math/bits"
	"slices"
	"strconv"
	"strings"
)

// Codes.
const (
	OK          = 0
	ErrInvalid  = 1
	ErrRange    = 2
	ErrLimit    = 3
	ErrState    = 4
	ErrSyntax   = 5
	ErrNotFound = 6
	ErrBudget   = 7
	ErrProof    = 8
)

// Limits of relations and templates.
const (
	MaxSize  = 4
	MaxArity = 4
	MaxRels  = 6
	MaxText  = 20000
)

// Rel is a set of tuples.
type Rel struct {
	Arity  int64
	Tuples [][]int64
}

// Template has a size and relations.
type Template struct {
	Size int64
	Rels []Rel
}

// tupleBits has one bit for each tuple of an arity, at the number that its
// values are as the digits of a number with the size as its base. There are at
// most 256 tuples, and numbers of one arity have the order of their tuples.
type tupleBits [4]uint64

var codeNames = [...]string{"ok", "invalid", "range", "limit", "state", "syntax", "notfound", "budget", "proof"}

// CodeName returns the name of a code.
func CodeName(code int64) string {
	if code < 0 || code >= int64(len(codeNames)) {
		return ""
	}
	return codeNames[code]
}

// isSize reports whether there are values for a size.
func isSize(size int64) bool { return 1 <= size && size <= MaxSize }

// isArity reports whether relations can have an arity.
func isArity(arity int64) bool { return 1 <= arity && arity <= MaxArity }

// isListBelow reports whether a list has count numbers, all from 0 to limit - 1.
func isListBelow(list []int64, count, limit int64) bool {
	if int64(len(list)) != count {
		return false
	}
	for _, number := range list {
		if number < 0 || number >= limit {
			return false
		}
	}
	return true
}

// tupleCount returns how many tuples of an arity there are.
func tupleCount(size, arity int64) int64 {
	count := int64(1)
	for range arity {
		count *= size
	}
	return count
}

// placesOf walks the places of the tuple with a number, and their values.
func placesOf(size, arity, number int64) iter.Seq2[int64, int64] {
	return func(yield func(place, value int64) bool) {
		weight := tupleCount(size, arity)
		for place := range arity {
			weight /= size
			if !yield(place, number/weight%size) {
				return
			}
		}
	}
}

// tupleOf returns the tuple with a number.
func tupleOf(size, arity, number int64) []int64 {
	tuple := make([]int64, arity)
	for place, value := range placesOf(size, arity, number) {
		tuple[place] = value
	}
	return tuple
}

// numberOf returns the number of a tuple.
func numberOf(size int64, tuple []int64) int64 {
	number := int64(0)
	for _, value := range tuple {
		number = number*size + value
	}
	return number
}

// numberAt returns the number of the tuple of the values at some places.
func numberAt(size int64, tuple, places []int64) int64 {
	number := int64(0)
	for _, place := range places {
		number = number*size + tuple[place]
	}
	return number
}

// put adds the tuple with a number.
func (b *tupleBits) put(number int64) { b[number/64] |= 1 << (number % 64) }

// has reports whether the tuple with a number is there.
func (b tupleBits) has(number int64) bool { return b[number/64]>>(number%64)&1 == 1 }

// numbers walks the numbers of the tuples, in order.
func (b tupleBits) numbers() iter.Seq[int64] {
	return func(yield func(number int64) bool) {
		for i, word := range b {
			for ; word != 0; word &= word - 1 {
				if !yield(int64(64*i + bits.TrailingZeros64(word))) {
					return
				}
			}
		}
	}
}

// meet returns the tuples of both.
func (b tupleBits) meet(c tupleBits) tupleBits {
	for i := range b {
		b[i] &= c[i]
	}
	return b
}

// join returns the tuples of one of both.
func (b tupleBits) join(c tupleBits) tupleBits {
	for i := range b {
		b[i] |= c[i]
	}
	return b
}

// without returns the tuples that are not those of another one.
func (b tupleBits) without(c tupleBits) tupleBits {
	for i := range b {
		b[i] &^= c[i]
	}
	return b
}

// apart returns the tuples of only one of both.
func (b tupleBits) apart(c tupleBits) tupleBits {
	for i := range b {
		b[i] ^= c[i]
	}
	return b
}

// isPartOf reports whether all tuples are tuples of another one.
func (b tupleBits) isPartOf(c tupleBits) bool { return b.meet(c) == b }

// bitsOf returns the tuples of a valid relation.
func bitsOf(size int64, r Rel) tupleBits {
	var b tupleBits
	for _, tuple := range r.Tuples {
		b.put(numberOf(size, tuple))
	}
	return b
}

// fullBits returns all tuples of an arity.
func fullBits(size, arity int64) tupleBits {
	var b tupleBits
	for number := range tupleCount(size, arity) {
		b.put(number)
	}
	return b
}

// relOf returns the relation of some tuples, in new memory.
func relOf(size, arity int64, b tupleBits) Rel {
	r := Rel{Arity: arity}
	for number := range b.numbers() {
		r.Tuples = append(r.Tuples, tupleOf(size, arity, number))
	}
	return r
}

// isEmptyRel reports whether a relation has no tuples.
func isEmptyRel(r Rel) bool { return len(r.Tuples) == 0 }

// ValidRel reports whether r is valid for a size.
func ValidRel(size int64, r Rel) bool {
	if !isSize(size) || !isArity(r.Arity) {
		return false
	}
	for i, tuple := range r.Tuples {
		if !isListBelow(tuple, r.Arity, size) {
			return false
		}
		if i > 0 && slices.Compare(r.Tuples[i-1], tuple) >= 0 {
			return false
		}
	}
	return true
}

// SameRel reports whether two relations are deeply equal.
func SameRel(r, s Rel) bool {
	return r.Arity == s.Arity && slices.EqualFunc(r.Tuples, s.Tuples, slices.Equal[[]int64])
}

// MakeRel returns the relation of some tuples.
func MakeRel(size, arity int64, tuples [][]int64) (Rel, int64) {
	if !isSize(size) {
		return Rel{}, ErrInvalid
	}
	if !isArity(arity) {
		return Rel{}, ErrRange
	}
	var b tupleBits
	for _, tuple := range tuples {
		if !isListBelow(tuple, arity, size) {
			return Rel{}, ErrRange
		}
		b.put(numberOf(size, tuple))
	}
	return relOf(size, arity, b), OK
}

// FullRel returns the relation of all tuples.
func FullRel(size, arity int64) (Rel, int64) {
	if !isSize(size) {
		return Rel{}, ErrInvalid
	}
	if !isArity(arity) {
		return Rel{}, ErrRange
	}
	return relOf(size, arity, fullBits(size, arity)), OK
}

// EqualRel returns the relation of equal values.
func EqualRel(size int64) (Rel, int64) {
	if !isSize(size) {
		return Rel{}, ErrInvalid
	}
	r := Rel{Arity: 2}
	for value := range size {
		r.Tuples = append(r.Tuples, []int64{value, value})
	}
	return r, OK
}

// HasTuple reports whether a relation has a tuple.
func HasTuple(size int64, r Rel, tuple []int64) (bool, int64) {
	if !ValidRel(size, r) {
		return false, ErrInvalid
	}
	if !isListBelow(tuple, r.Arity, size) {
		return false, OK
	}
	return bitsOf(size, r).has(numberOf(size, tuple)), OK
}

// OppositeRel returns the relation of all other tuples.
func OppositeRel(size int64, r Rel) (Rel, int64) {
	if !ValidRel(size, r) {
		return Rel{}, ErrInvalid
	}
	return relOf(size, r.Arity, fullBits(size, r.Arity).without(bitsOf(size, r))), OK
}

// pairCode returns the error of two relations that have to be of one arity.
func pairCode(size int64, r, s Rel) int64 {
	if !ValidRel(size, r) || !ValidRel(size, s) {
		return ErrInvalid
	}
	if r.Arity != s.Arity {
		return ErrRange
	}
	return OK
}

// MeetRels returns the tuples of both.
func MeetRels(size int64, r, s Rel) (Rel, int64) {
	if code := pairCode(size, r, s); code != OK {
		return Rel{}, code
	}
	return relOf(size, r.Arity, bitsOf(size, r).meet(bitsOf(size, s))), OK
}

// JoinRels returns the tuples of one of both.
func JoinRels(size int64, r, s Rel) (Rel, int64) {
	if code := pairCode(size, r, s); code != OK {
		return Rel{}, code
	}
	return relOf(size, r.Arity, bitsOf(size, r).join(bitsOf(size, s))), OK
}

// PairRels returns tuples with tuples behind them.
func PairRels(size int64, r, s Rel) (Rel, int64) {
	if !ValidRel(size, r) || !ValidRel(size, s) {
		return Rel{}, ErrInvalid
	}
	arity := r.Arity + s.Arity
	if !isArity(arity) {
		return Rel{}, ErrRange
	}
	var b tupleBits
	for _, front := range r.Tuples {
		first := numberOf(size, front) * tupleCount(size, s.Arity)
		for _, back := range s.Tuples {
			b.put(first + numberOf(size, back))
		}
	}
	return relOf(size, arity, b), OK
}

// PlaceRel returns a relation at places of a greater one.
func PlaceRel(size int64, r Rel, arity int64, places []int64) (Rel, int64) {
	if !ValidRel(size, r) {
		return Rel{}, ErrInvalid
	}
	if !isArity(arity) || !isListBelow(places, r.Arity, arity) {
		return Rel{}, ErrRange
	}
	placed := bitsOf(size, r)
	var b tupleBits
	for number := range tupleCount(size, arity) {
		if placed.has(numberAt(size, tupleOf(size, arity, number), places)) {
			b.put(number)
		}
	}
	return relOf(size, arity, b), OK
}

// ProjectRel returns the values at places.
func ProjectRel(size int64, r Rel, places []int64) (Rel, int64) {
	if !ValidRel(size, r) {
		return Rel{}, ErrInvalid
	}
	arity := int64(len(places))
	if !isArity(arity) || !isListBelow(places, arity, r.Arity) {
		return Rel{}, ErrRange
	}
	var b tupleBits
	for _, tuple := range r.Tuples {
		b.put(numberAt(size, tuple, places))
	}
	return relOf(size, arity, b), OK
}

// FixPlace returns the tuples with a value at a place.
func FixPlace(size int64, r Rel, place, value int64) (Rel, int64) {
	if !ValidRel(size, r) {
		return Rel{}, ErrInvalid
	}
	if place < 0 || place >= r.Arity || value < 0 || value >= size {
		return Rel{}, ErrRange
	}
	var b tupleBits
	for _, tuple := range r.Tuples {
		if tuple[place] == value {
			b.put(numberOf(size, tuple))
		}
	}
	return relOf(size, r.Arity, b), OK
}

// ComposeRels returns the composition of two relations.
func ComposeRels(size int64, r, s Rel) (Rel, int64) {
	if !ValidRel(size, r) || !ValidRel(size, s) {
		return Rel{}, ErrInvalid
	}
	if r.Arity != 2 || s.Arity != 2 {
		return Rel{}, ErrRange
	}
	var b tupleBits
	for _, left := range r.Tuples {
		for _, right := range s.Tuples {
			if left[1] == right[0] {
				b.put(left[0]*size + right[1])
			}
		}
	}
	return relOf(size, 2, b), OK
}

// mappedBits returns the tuples, of the size next, of a valid relation with
// each value a replaced by to[a].
func mappedBits(r Rel, to []int64, next int64) tupleBits {
	var b tupleBits
	for _, tuple := range r.Tuples {
		number := int64(0)
		for _, value := range tuple {
			number = number*next + to[value]
		}
		b.put(number)
	}
	return b
}

// MapRel returns a relation with other values.
func MapRel(size int64, r Rel, to []int64, next int64) (Rel, int64) {
	if !ValidRel(size, r) {
		return Rel{}, ErrInvalid
	}
	if !isSize(next) || !isListBelow(to, size, next) {
		return Rel{}, ErrRange
	}
	return relOf(next, r.Arity, mappedBits(r, to, next)), OK
}

// IsPartOf reports whether all tuples of r are tuples of s.
func IsPartOf(size int64, r, s Rel) (bool, int64) {
	if code := pairCode(size, r, s); code != OK {
		return false, code
	}
	return bitsOf(size, r).isPartOf(bitsOf(size, s)), OK
}

// ValidTemplate reports whether t is valid.
func ValidTemplate(t Template) bool {
	if !isSize(t.Size) || len(t.Rels) > MaxRels {
		return false
	}
	for _, r := range t.Rels {
		if !ValidRel(t.Size, r) {
			return false
		}
	}
	return true
}

// SameTemplate reports whether two templates are deeply equal.
func SameTemplate(t, u Template) bool {
	return t.Size == u.Size && slices.EqualFunc(t.Rels, u.Rels, SameRel)
}

// templatesCode returns the error of two templates between which maps are
// looked for.
func templatesCode(t, u Template) int64 {
	if !ValidTemplate(t) || !ValidTemplate(u) {
		return ErrInvalid
	}
	if !slices.EqualFunc(t.Rels, u.Rels, func(r, s Rel) bool { return r.Arity == s.Arity }) {
		return ErrState
	}
	return OK
}

// keepsTuples reports whether each tuple of t becomes one of u when its values
// are replaced.
func keepsTuples(t, u Template, to []int64) bool {
	for i, r := range t.Rels {
		if !mappedBits(r, to, u.Size).isPartOf(bitsOf(u.Size, u.Rels[i])) {
			return false
		}
	}
	return true
}

// mapsBetween walks all maps from t to u, in the order of lists. The list that
// is given out is used again for the next one.
func mapsBetween(t, u Template) iter.Seq[[]int64] {
	return func(yield func(to []int64) bool) {
		to := make([]int64, t.Size)
	look:
		if keepsTuples(t, u, to) && !yield(to) {
			return
		}
		place := t.Size - 1
	carry:
		if place < 0 {
			return
		}
		to[place]++
		if to[place] == u.Size {
			to[place] = 0
			place--
			goto carry
		}
		goto look
	}
}

// IsMapOf reports whether a list is a map of templates.
func IsMapOf(t, u Template, to []int64) (bool, int64) {
	if code := templatesCode(t, u); code != OK {
		return false, code
	}
	if !isListBelow(to, t.Size, u.Size) {
		return false, ErrRange
	}
	return keepsTuples(t, u, to), OK
}

// FirstMap returns the first map of templates.
func FirstMap(t, u Template) ([]int64, int64) {
	if code := templatesCode(t, u); code != OK {
		return nil, code
	}
	for to := range mapsBetween(t, u) {
		return slices.Clone(to), OK
	}
	return nil, ErrNotFound
}

// valuesIn returns the different values of a list, in ascending order.
func valuesIn(list []int64) []int64 {
	values := slices.Clone(list)
	slices.Sort(values)
	return slices.Compact(values)
}

// coreKey returns the place of each value among the values of a core, counted
// from 1 on, and 0 for the values that are not there.
func coreKey(values []int64) [4]int64 {
	var key [4]int64
	for place, value := range values {
		key[value] = int64(place) + 1
	}
	return key
}

// leastValues returns the values of the first of all maps from t to itself that
// have as few different values as there can be.
func leastValues(t Template) []int64 {
	var least []int64
	seen := map[[4]int64]bool{}
	for to := range mapsBetween(t, t) {
		values := valuesIn(to)
		key := coreKey(values)
		if seen[key] {
			continue
		}
		seen[key] = true
		if least == nil || len(values) < len(least) {
			least = values
		}
	}
	return least
}

// coreRel returns the relation of the tuples with only the values of a core,
// each value being replaced by its place there.
func coreRel(r Rel, key [4]int64, next int64) Rel {
	var b tupleBits
tuples:
	for _, tuple := range r.Tuples {
		number := int64(0)
		for _, value := range tuple {
			if key[value] == 0 {
				continue tuples
			}
			number = number*next + key[value] - 1
		}
		b.put(number)
	}
	return relOf(next, r.Arity, b)
}

// CoreOf returns a smallest template within a template.
func CoreOf(t Template) (Template, []int64, int64) {
	if !ValidTemplate(t) {
		return Template{}, nil, ErrInvalid
	}
	values := leastValues(t)
	core := Template{Size: int64(len(values))}
	for _, r := range t.Rels {
		core.Rels = append(core.Rels, coreRel(r, coreKey(values), core.Size))
	}
	return core, values, OK
}

// writeHead appends a word and some numbers behind it, separated by blanks.
func writeHead(b *strings.Builder, word string, numbers ...int64) {
	b.WriteString(word)
	for _, number := range numbers {
		b.WriteByte(' ')
		b.WriteString(strconv.FormatInt(number, 10))
	}
}

// writeDigits appends the digits of a list.
func writeDigits(b *strings.Builder, list []int64) {
	for _, number := range list {
		b.WriteByte(byte('0' + number))
	}
}

// writeRel appends the text of a valid relation.
func writeRel(b *strings.Builder, r Rel) {
	writeHead(b, "rel", r.Arity)
	for _, tuple := range r.Tuples {
		b.WriteByte(' ')
		writeDigits(b, tuple)
	}
}

// RelText returns the text of a relation.
func RelText(r Rel) string {
	if !ValidRel(MaxSize, r) {
		return ""
	}
	var b strings.Builder
	writeRel(&b, r)
	return b.String()
}

// digitsOf returns the digits that a word consists of, false if it has other
// bytes.
func digitsOf(word string) ([]int64, bool) {
	digits := make([]int64, len(word))
	for i := range len(word) {
		if word[i] < '0' || word[i] > '9' {
			return nil, false
		}
		digits[i] = int64(word[i] - '0')
	}
	return digits, true
}

// digitOf returns the digit that a word consists of, false if it is not one.
func digitOf(word string) (int64, bool) {
	digits, ok := digitsOf(word)
	if !ok || len(digits) != 1 {
		return 0, false
	}
	return digits[0], true
}

// relOfText returns the relation, valid for a size, with the given text.
func relOfText(size int64, text string) (Rel, bool) {
	words := strings.Split(text, " ")
	if len(words) < 2 || words[0] != "rel" {
		return Rel{}, false
	}
	arity, ok := digitOf(words[1])
	if !ok {
		return Rel{}, false
	}
	tuples, ok := readAll(words[2:], digitsOf)
	r := Rel{Arity: arity, Tuples: tuples}
	if !ok || !ValidRel(size, r) {
		return Rel{}, false
	}
	return r, true
}

// ReadRel returns the relation with the given text.
func ReadRel(text string) (Rel, int64) {
	if len(text) > MaxText {
		return Rel{}, ErrRange
	}
	r, ok := relOfText(MaxSize, text)
	if !ok {
		return Rel{}, ErrSyntax
	}
	return r, OK
}

// TemplateText returns the text of a template.
func TemplateText(t Template) string {
	if !ValidTemplate(t) {
		return ""
	}
	var b strings.Builder
	writeHead(&b, "template", t.Size)
	b.WriteByte('\n')
	for _, r := range t.Rels {
		writeRel(&b, r)
		b.WriteByte('\n')
	}
	return b.String()
}

// readAll returns what each of some texts is read as, false if one cannot be.
func readAll[T any](texts []string, read func(text string) (T, bool)) ([]T, bool) {
	var list []T
	for _, text := range texts {
		element, ok := read(text)
		if !ok {
			return nil, false
		}
		list = append(list, element)
	}
	return list, true
}

// textOfAll returns a line with the text of each element of a list; the empty
// string if one has no text, or there are more than most.
func textOfAll[T any](list []T, most int, textOf func(element T) string) string {
	if len(list) > most {
		return ""
	}
	var b strings.Builder
	for _, element := range list {
		text := textOf(element)
		if text == "" {
			return ""
		}
		b.WriteString(text)
		b.WriteByte('\n')
	}
	return b.String()
}

// endedLines returns the lines of a text, and whether the last one ends. The
// empty text has none.
func endedLines(text string) ([]string, bool) {
	if text == "" {
		return nil, true
	}
	text, ended := strings.CutSuffix(text, "\n")
	return strings.Split(text, "\n"), ended
}

// headedLines returns what the first line of a text has behind a word, and the
// other lines; false if it has not this word, or the last line does not end.
func headedLines(text, word string) (string, []string, bool) {
	lines, ended := endedLines(text)
	if !ended || len(lines) == 0 {
		return "", nil, false
	}
	head, named := strings.CutPrefix(lines[0], word+" ")
	return head, lines[1:], named
}

// templateOfText returns the valid template with the given text.
func templateOfText(text string) (Template, bool) {
	head, lines, hasHead := headedLines(text, "template")
	size, isDigit := digitOf(head)
	if !hasHead || !isDigit {
		return Template{}, false
	}
	rels, ok := readAll(lines, func(line string) (Rel, bool) { return relOfText(size, line) })
	t := Template{Size: size, Rels: rels}
	if !ok || !ValidTemplate(t) {
		return Template{}, false
	}
	return t, true
}

// ReadTemplate returns the template with the given text.
func ReadTemplate(text string) (Template, int64) {
	if len(text) > MaxText {
		return Template{}, ErrRange
	}
	t, ok := templateOfText(text)
	if !ok {
		return Template{}, ErrSyntax
	}
	return t, OK
}
