package scheme

import (
	"strconv"
	"strings"

	"bywash/api"
)

const (
	wordEnd = " "
	dots    = ".."
)

// words are those of the kinds, from hourly on.
var words = [static]string{"hourly", "daily", "weekly", "monthly", "static"}

// Show returns the text of s, or the empty string if s is not valid.
func (s Scheme) Show() string {
	if s.Check() != api.OK {
		return ""
	}
	return words[s.Kind-hourly] + wordEnd + strconv.Itoa(s.First) + dots + strconv.Itoa(s.Last)
}

// Parse returns the valid scheme whose text is t, or ErrForm if there is none.
func Parse(t string) (Scheme, api.Errno) {
	s := read(t)
	// Each scheme has one text only: whatever read takes beyond it leads to a scheme whose text differs from t, or to one that is not valid.
	if s.Check() != api.OK || s.Show() != t {
		return Scheme{}, api.ErrForm
	}
	return s, api.OK
}

// read returns the only scheme that t could be the text of. If t is no text of a scheme, this is any one.
func read(t string) Scheme {
	word, rest, _ := strings.Cut(t, wordEnd)
	first, last, _ := strings.Cut(rest, dots)
	return Scheme{Kind: kindOf(word), First: number(first), Last: number(last)}
}

// kindOf returns the kind of a word, or 0 if no kind has it.
func kindOf(word string) int {
	for n, w := range words {
		if w == word {
			return hourly + n
		}
	}
	return 0
}

// number returns the number whose digits t has, and any other one if t has something else.
func number(t string) int {
	n, _ := strconv.Atoi(t)
	return n
}
