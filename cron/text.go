package cron

import (
	"strconv"
	"strings"

	"bywash/api"
)

const (
	anyText   = "*"
	maxDigits = 2
	maxStep   = 59
)

// item is what an item of a field stands for: numbers from first to last, step by step.
type item struct{ first, last, step int }

// Show returns the text of c, or the empty string if c is not valid.
func (c Spec) Show() string {
	if c.Check() != api.OK {
		return ""
	}
	texts := make([]string, fieldCount)
	for field := range texts {
		texts[field] = c.showField(field)
	}
	return strings.Join(texts, " ")
}

func (c Spec) showField(field int) string {
	if c.Any[field] {
		return anyText
	}
	set := c.Sets[field]
	var runs []string
	for n := lowest[field]; n <= highest[field]; n++ {
		if !has(set, n) {
			continue
		}
		first := n
		for has(set, n+1) {
			n++
		}
		runs = append(runs, showRun(first, n))
	}
	return strings.Join(runs, ",")
}

// showRun returns the text of consecutive numbers.
func showRun(first, last int) string {
	if first == last {
		return strconv.Itoa(first)
	}
	return strconv.Itoa(first) + "-" + strconv.Itoa(last)
}

// Parse returns the spec of a loose text. It returns ErrForm if s does not have five fields, and otherwise the error of the first item that has one.
func Parse(s string) (Spec, api.Errno) {
	texts, ok := split(s)
	if !ok {
		return Spec{}, api.ErrForm
	}
	var c Spec
	for field, text := range texts {
		c.Any[field] = text == anyText
		set, e := parseField(field, text)
		if e != api.OK {
			return Spec{}, e
		}
		c.Sets[field] = set
	}
	return c, api.OK
}

// split returns the texts of the five fields of s, and whether s has five. As spaces separate fields, none precedes the first field or follows the last one.
func split(s string) ([fieldCount]string, bool) {
	var texts [fieldCount]string
	if strings.HasPrefix(s, " ") || strings.HasSuffix(s, " ") {
		return texts, false
	}
	n := 0
	for text := range strings.SplitSeq(s, " ") {
		if text == "" {
			continue
		}
		if n == fieldCount {
			return texts, false
		}
		texts[n] = text
		n++
	}
	return texts, n == fieldCount
}

// parseField returns the set of a field, or the error of its first item that has one.
func parseField(field int, text string) (uint64, api.Errno) {
	if text == anyText {
		return full(field), api.OK
	}
	set := uint64(0)
	for t := range strings.SplitSeq(text, ",") {
		i, ok := parseItem(field, t)
		if !ok {
			return 0, api.ErrForm
		}
		if !i.fits(field) {
			return 0, api.ErrRange
		}
		set |= span(i.first, i.last, i.step)
	}
	return set, api.OK
}

// parseItem reads an item, whose numbers may be out of range, and reports whether it has one of the forms of items.
func parseItem(field int, text string) (item, bool) {
	if n, ok := parseNumber(text); ok {
		return item{n, n, 1}, true
	}
	numbers, stepText, hasStep := strings.Cut(text, "/")
	if !hasStep {
		first, last, ok := parseRange(numbers)
		return item{first, last, 1}, ok
	}
	step, stepOK := parseNumber(stepText)
	if numbers == anyText {
		return item{lowest[field], highest[field], step}, stepOK
	}
	first, last, ok := parseRange(numbers)
	return item{first, last, step}, ok && stepOK
}

// parseRange reads the first and the last number of a range, and reports whether it is one.
func parseRange(text string) (first, last int, ok bool) {
	firstText, lastText, _ := strings.Cut(text, "-")
	first, firstOK := parseNumber(firstText)
	last, lastOK := parseNumber(lastText)
	return first, last, firstOK && lastOK
}

// parseNumber reads a number of one or two digits, and reports whether it is one.
func parseNumber(text string) (int, bool) {
	if text == "" || len(text) > maxDigits {
		return 0, false
	}
	n := 0
	for _, c := range []byte(text) {
		if c < '0' || c > '9' {
			return 0, false
		}
		n = 10*n + int(c-'0')
	}
	return n, true
}

// fits reports whether the numbers of i and its step are in range, and whether its first number is not above its last one.
func (i item) fits(field int) bool {
	return lowest[field] <= i.first && i.first <= i.last && i.last <= highest[field] && 1 <= i.step && i.step <= maxStep
}
