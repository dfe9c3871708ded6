// Package words cuts a text into the words of which the grammar is made (P3).
package words

import "reals/api"

// Kind tells what sort of word it is.
type Kind int

// The sorts of words.
const (
	End    Kind = 0 // no word: the text ends here
	Number Kind = 1 // one to nine digits
	Name   Kind = 2 // a small letter and the small letters and digits behind it
	Mark   Kind = 3 // any other byte
)

// Word is a word and the place of its first byte in the text.
type Word struct {
	Kind Kind
	Text string
	At   int
}

// Split cuts s into its words. An End at the length of s closes the list, so
// that a text that ends too soon has a place as any wrong word has.
func Split(s string) []Word {
	list := []Word{}
	at := 0
	for at < len(s) {
		first := s[at]
		kind := kindOf(first)
		end := at + 1
		switch kind {
		case Number:
			end = numberEnd(s, at)
		case Name:
			end = nameEnd(s, at)
		}
		if first != ' ' {
			list = append(list, Word{Kind: kind, Text: s[at:end], At: at})
		}
		at = end
	}
	list = append(list, Word{Kind: End, Text: "", At: len(s)})
	return list
}

// Value tells the number that the word's digits write. Words from Split have
// at most nine of them, so it fits an int of 32 bits.
func (w Word) Value() int {
	value := 0
	for i := 0; i < len(w.Text); i++ {
		digit := w.Text[i]
		if isDigit(digit) {
			value = value*10 + int(digit-'0')
		}
	}
	return value
}

func kindOf(first byte) Kind {
	if isDigit(first) {
		return Number
	}
	if isLetter(first) {
		return Name
	}
	return Mark
}

// numberEnd tells where the number ends whose first digit stands at the place at.
func numberEnd(s string, at int) int {
	end := at + 1
	for end < len(s) && end-at < api.MaxDigits && isDigit(s[end]) {
		end++
	}
	return end
}

// nameEnd tells where the name ends whose first letter stands at the place at.
func nameEnd(s string, at int) int {
	end := at + 1
	for end < len(s) && (isLetter(s[end]) || isDigit(s[end])) {
		end++
	}
	return end
}

func isDigit(b byte) bool {
	return b >= '0' && b <= '9'
}

func isLetter(b byte) bool {
	return b >= 'a' && b <= 'z'
}
