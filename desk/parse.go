package desk

import (
	"strings"

	"calliper/api"
)

const (
	mostDigits = 9
	mostByte   = 1<<8 - 1
)

// Order is what a line asks for.
type Order struct {
	Verb string
	N    []int
}

// form is how many numbers a verb must have, how many of these, from the first on, are bytes, and whether more bytes may come behind.
type form struct {
	numbers, bytes int
	more           bool
}

// formOf is a verb's form.
func formOf(verb string) (form, bool) {
	switch verb {
	case "new", "on", "off", "stop", "master", "slave", "bus", "lose", "tick", "done", "sample", "locked", "idle":
		return form{}, true
	case "go":
		return form{numbers: 1}, true
	case "open", "event":
		return form{numbers: 1, bytes: 1}, true
	case "read":
		return form{numbers: 3, bytes: 1}, true
	case "hold":
		return form{numbers: 3, bytes: 3}, true
	case "lay":
		return form{numbers: 4, bytes: 4}, true
	case "write", "app":
		return form{numbers: 2, bytes: 1, more: true}, true
	case "push", "put", "draw":
		return form{more: true}, true
	}
	return form{}, false
}

// may tells whether n may be the number at a place, from 0 on.
func (f form) may(place, n int) bool {
	if place >= f.numbers {
		return f.more && place < f.numbers+api.MaxWords && n <= mostByte
	}
	return place >= f.bytes || n <= mostByte
}

// Parse is what a line asks for; or the word that is wrong.
func Parse(s string) (Order, int, api.Errno) {
	if len(s) > api.MaxLine {
		return Order{}, 0, api.ErrLong
	}
	words := strings.Split(s, " ")
	f, ok := formOf(words[0])
	if !ok {
		return Order{}, 0, api.ErrWord
	}
	o := Order{Verb: words[0]}
	for i, word := range words[1:] {
		n, ok := number(word)
		if !ok || !f.may(i, n) {
			return Order{}, i + 1, api.ErrWord
		}
		o.N = append(o.N, n)
	}
	if len(o.N) < f.numbers {
		return Order{}, len(words), api.ErrWord
	}
	return o, 0, api.OK
}

// number is the number that a word is.
func number(word string) (int, bool) {
	if len(word) < 1 || len(word) > mostDigits || len(word) > 1 && word[0] == '0' {
		return 0, false
	}
	n := 0
	for _, r := range word {
		if r < '0' || r > '9' {
			return 0, false
		}
		n = 10*n + int(r-'0')
	}
	return n, true
}
