package tree

import (
	"reals/api"
	"reals/words"
)

// maxRepeated is how many numbers may stand behind the ; of cf.
const maxRepeated = 8

// reader reads a list of words from the left. Each of its methods that reads
// a part of the grammar answers nil if a word cannot stand where it stands,
// and leaves that word as the next one: so its place is the error's place.
type reader struct {
	list    []words.Word
	next    int
	around  int // brackets, functions and minus signs around the next word
	deepest int // the greatest around of a number, constant or cf
	nodes   int
}

// Read reads an expression (P4, P5): its tree, the error and the place.
func Read(s string) (*Node, api.Errno, int) {
	if len(s) > api.MaxText {
		return nil, api.ErrLong, 0
	}
	r := newReader(s)
	root := r.sum()
	rest := r.word()
	if root == nil || rest.Kind != words.End {
		return nil, api.ErrSyntax, rest.At
	}
	if r.deepest > api.MaxDepth || r.nodes > api.MaxNodes {
		return nil, api.ErrDeep, 0
	}
	return root, api.OK, 0
}

func newReader(s string) *reader {
	return &reader{list: words.Split(s)}
}

// word tells the next word. The End that closes the list is never read past.
func (r *reader) word() words.Word {
	if r.next < len(r.list) {
		return r.list[r.next]
	}
	return words.Word{}
}

// take reads the next word if it is the one that is wanted.
func (r *reader) take(wanted string) bool {
	w := r.word()
	if w.Kind == words.End || w.Text != wanted {
		return false
	}
	r.next++
	return true
}

func (r *reader) sum() *Node {
	left := r.product()
	for left != nil {
		kind := Add
		if !r.take("+") {
			if !r.take("-") {
				return left
			}
			kind = Subtract
		}
		right := r.product()
		left = r.operation(kind, left, right)
	}
	return nil
}

func (r *reader) product() *Node {
	left := r.signed()
	for left != nil {
		kind := Multiply
		if !r.take("*") {
			if !r.take("/") {
				return left
			}
			kind = Divide
		}
		right := r.signed()
		left = r.operation(kind, left, right)
	}
	return nil
}

func (r *reader) signed() *Node {
	if !r.take("-") {
		return r.atom()
	}
	r.around++
	inner := r.signed()
	r.around--
	return r.unary(Minus, inner)
}

func (r *reader) atom() *Node {
	w := r.word()
	switch w.Kind {
	case words.Number:
		r.next++
		value := w.Value()
		return r.leaf(&Node{Kind: Number, Value: value})
	case words.Name:
		kind := named(w.Text)
		return r.name(kind)
	}
	return r.brackets()
}

// name reads a constant, a cf or a function; its name is the next word.
func (r *reader) name(kind Kind) *Node {
	if kind == None {
		return nil
	}
	r.next++
	switch kind {
	case Pi, E:
		return r.leaf(&Node{Kind: kind})
	case Cf:
		return r.continued()
	}
	inner := r.brackets()
	return r.unary(kind, inner)
}

// brackets reads a sum in brackets.
func (r *reader) brackets() *Node {
	if !r.take("(") {
		return nil
	}
	r.around++
	inner := r.sum()
	r.around--
	if inner == nil {
		return nil
	}
	if !r.take(")") {
		return nil
	}
	return inner
}

// continued reads what stands behind the word cf.
func (r *reader) continued() *Node {
	if !r.take("[") {
		return nil
	}
	first := r.word()
	if first.Kind != words.Number {
		return nil
	}
	r.next++
	if !r.take(";") {
		return nil
	}
	terms := []int{first.Value()}
	for count := 1; count <= maxRepeated; count++ {
		term := r.term()
		if term == 0 {
			return nil
		}
		terms = append(terms, term)
		if r.take("]") {
			return r.leaf(&Node{Kind: Cf, Terms: terms})
		}
		// The , of one number too many is itself the wrong word: it stays unread.
		if count == maxRepeated || !r.take(",") {
			return nil
		}
	}
	return nil
}

// term reads a number behind the ; of cf. It answers 0 if there is none, or if
// it is 0, which may not stand there and so is not read.
func (r *reader) term() int {
	w := r.word()
	if w.Kind != words.Number {
		return 0
	}
	value := w.Value()
	if value != 0 {
		r.next++
	}
	return value
}

// leaf counts a number, a constant or a cf, and how deep it stands.
func (r *reader) leaf(node *Node) *Node {
	r.nodes++
	if r.around > r.deepest {
		r.deepest = r.around
	}
	return node
}

func (r *reader) unary(kind Kind, inner *Node) *Node {
	if inner == nil {
		return nil
	}
	r.nodes++
	return &Node{Kind: kind, Left: inner}
}

func (r *reader) operation(kind Kind, left *Node, right *Node) *Node {
	if right == nil {
		return nil
	}
	r.nodes++
	return &Node{Kind: kind, Left: left, Right: right}
}
