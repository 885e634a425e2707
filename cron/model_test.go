package cron_test

import (
	"math/rand"
	"regexp"
	"slices"
	"strconv"
	"strings"
	"time"

	"bywash/api"
	"bywash/cron"
)

// last is the last minute.
const last = api.MaxMinute - 1

// ends are the least and the greatest number of each field.
func ends(field int) (low, high int) {
	all := [5][2]int{{0, 59}, {0, 23}, {1, 31}, {1, 12}, {0, 6}}
	return all[field][0], all[field][1]
}

// numbers returns the numbers from low to high.
func numbers(low, high int) []int {
	var n []int
	for ; low <= high; low++ {
		n = append(n, low)
	}
	return n
}

// lists are the numbers of each field; a field without any is unrestricted.
type lists [5][]int

// spec returns the spec of these lists.
func (l lists) spec() cron.Spec {
	var c cron.Spec
	for field, list := range l {
		if len(list) == 0 {
			c.Any[field] = true
			list = numbers(ends(field))
		}
		for _, n := range list {
			c.Sets[field] |= 1 << n
		}
	}
	return c
}

// dateOf returns the date of a minute, as the library reckons it.
func dateOf(minute int) time.Time { return time.Unix(946684800+60*int64(minute), 0).UTC() }

// minuteOf returns the minute of a date.
func minuteOf(year, month, day, hour, minute int) int {
	return int(time.Date(year, time.Month(month), day, hour, minute, 0, 0, time.UTC).Unix()-946684800) / 60
}

// dayMatches reports whether the month, the day and the weekday of a date are right.
func (l lists) dayMatches(d time.Time) bool {
	in := func(field, n int) bool { return len(l[field]) == 0 || slices.Contains(l[field], n) }
	if !in(3, int(d.Month())) {
		return false
	}
	day, weekday := in(2, d.Day()), in(4, int(d.Weekday()))
	if len(l[2]) > 0 && len(l[4]) > 0 {
		return day || weekday
	}
	return day && weekday
}

// matches reports whether a minute matches.
func (l lists) matches(minute int) bool {
	if minute < 0 || minute > last {
		return false
	}
	d := dateOf(minute)
	in := func(field, n int) bool { return len(l[field]) == 0 || slices.Contains(l[field], n) }
	return in(0, d.Minute()) && in(1, d.Hour()) && l.dayMatches(d)
}

// next returns the first minute above after that matches, by trying all days, and all minutes of the first ones that match.
func (l lists) next(after int) (int, bool) {
	for day := max(after+1, 0) / 1440; day <= last/1440; day++ {
		if !l.dayMatches(dateOf(1440 * day)) {
			continue
		}
		for n := 1440 * day; n < 1440*day+1440; n++ {
			if n > after && l.matches(n) {
				return n, true
			}
		}
	}
	return 0, false
}

// text returns the text of the spec of these lists, which are ascending.
func (l lists) text() string {
	var fields []string
	for _, list := range l {
		if len(list) == 0 {
			fields = append(fields, "*")
			continue
		}
		// A mark for each number from 0 on shows the runs.
		marks := []byte(strings.Repeat(".", 61))
		for _, n := range list {
			marks[n] = 'x'
		}
		var items []string
		for _, run := range regexp.MustCompile("x+").FindAllIndex(marks, -1) {
			item := strconv.Itoa(run[0])
			if run[1]-run[0] > 1 {
				item += "-" + strconv.Itoa(run[1]-1)
			}
			items = append(items, item)
		}
		fields = append(fields, strings.Join(items, ","))
	}
	return strings.Join(fields, " ")
}

// The forms of texts.
var (
	fiveFields = regexp.MustCompile(`^[^ ]+( +[^ ]+){4}$`)
	oneField   = regexp.MustCompile(`[^ ]+`)
	oneNumber  = regexp.MustCompile(`^()()([0-9]{1,2})()$`)
	oneRange   = regexp.MustCompile(`^([0-9]{1,2})-([0-9]{1,2})()()$`)
	steps      = regexp.MustCompile(`^([0-9]{1,2})-([0-9]{1,2})()/([0-9]{1,2})$`)
	allSteps   = regexp.MustCompile(`^()()()\*/([0-9]{1,2})$`)
)

// parse reads a loose text by regular expressions.
func parse(s string) (cron.Spec, api.Errno) {
	if !fiveFields.MatchString(s) {
		return cron.Spec{}, api.ErrForm
	}
	var c cron.Spec
	for field, text := range oneField.FindAllString(s, -1) {
		low, high := ends(field)
		if text == "*" {
			c.Any[field] = true
			text = "*/1"
		}
		for _, item := range strings.Split(text, ",") {
			set, e := parseItem(item, low, high)
			if e != api.OK {
				return cron.Spec{}, e
			}
			c.Sets[field] |= set
		}
	}
	return c, api.OK
}

// parseItem reads an item of a field whose numbers are from low to high.
func parseItem(item string, low, high int) (uint64, api.Errno) {
	for _, form := range []*regexp.Regexp{oneNumber, oneRange, steps, allSteps} {
		parts := form.FindStringSubmatch(item)
		if parts == nil {
			continue
		}
		part := func(i, otherwise int) int {
			if parts[i] == "" {
				return otherwise
			}
			n, _ := strconv.Atoi(parts[i])
			return n
		}
		number := part(3, -1)
		from, to, step := low, high, part(4, 1)
		if number >= 0 {
			from, to = number, number
		}
		return parseSteps(part(1, from), part(2, to), step, low, high)
	}
	return 0, api.ErrForm
}

// parseSteps returns the numbers from from to to that are a multiple of step apart from the first one.
func parseSteps(from, to, step, low, high int) (uint64, api.Errno) {
	if from < low || from > high || to < low || to > high || from > to || step == 0 || step > 59 {
		return 0, api.ErrRange
	}
	set := uint64(0)
	for n := from; n <= to; n++ {
		if (n-from)%step == 0 {
			set |= 1 << n
		}
	}
	return set, api.OK
}

// someLists returns lists of which some are empty and some full, so that minutes that match are frequent or rare.
func someLists(r *rand.Rand) lists {
	var l lists
	for field := range l {
		low, high := ends(field)
		all := numbers(low, high)
		switch r.Intn(6) {
		case 0, 1:
		case 2:
			l[field] = all
		case 3:
			l[field] = []int{all[r.Intn(len(all))]}
		default:
			l[field] = someOf(r, all, 1+r.Intn(4))
		}
	}
	return l
}

// someOf returns about one of n of the numbers, and at least one.
func someOf(r *rand.Rand, all []int, n int) []int {
	var some []int
	for _, k := range all {
		if r.Intn(n+1) == 0 {
			some = append(some, k)
		}
	}
	if len(some) == 0 {
		return all[:1]
	}
	return some
}
