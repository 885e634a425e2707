package window

import (
	"strconv"
	"strings"

	"bywash/api"
)

const wordEnd = " "

// words are those of the kinds, from same on.
var words = [all]string{"same", "last", "shift", "within", "all"}

// Show returns the text of m, or the empty string if m is no mapping.
func (m Mapping) Show() string {
	if !m.formed() {
		return ""
	}
	word := words[m.Kind-same]
	if m.N == 0 {
		return word
	}
	return word + wordEnd + strconv.Itoa(m.N)
}

// Parse returns the mapping whose text is t, or ErrForm if there is none.
func Parse(t string) (Mapping, api.Errno) {
	m := read(t)
	// Each mapping has one text only: whatever read takes beyond it leads to a mapping whose text differs from t, or to none.
	if !m.formed() || m.Show() != t {
		return Mapping{}, api.ErrForm
	}
	return m, api.OK
}

// read returns the only mapping that t could be the text of. If t is no text of a mapping, this is any one.
func read(t string) Mapping {
	word, number, _ := strings.Cut(t, wordEnd)
	n, _ := strconv.Atoi(number)
	return Mapping{Kind: kindOf(word), N: n}
}

// kindOf returns the kind of a word, or 0 if no kind has it.
func kindOf(word string) int {
	for n, w := range words {
		if w == word {
			return same + n
		}
	}
	return 0
}
