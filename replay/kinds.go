package replay

import (
	"slices"
	"strconv"
	"strings"

	"parlance/api"
	"parlance/frame"
)

// kind is a kind of line: what stands behind its word and the blank there is read, and said.
type kind interface {
	read(rest string) (api.Event, bool)
	say(e api.Event) string
}

// kinds: by their words.
func kinds() map[string]kind {
	client := func(e *api.Event) *int { return &e.Client }
	worker := func(e *api.Event) *int { return &e.Worker }
	return map[string]kind{
		"bytes":    hexLine{},
		"send":     sendLine{},
		"dispatch": numberLine{api.EvDispatch, client},
		"hang":     numberLine{api.EvHang, client},
		"work":     numberLine{api.EvWork, worker},
		"crash":    crashLine{},
	}
}

// word: by which word an event is said; "" for none.
func word(kind int) string {
	switch kind {
	case api.EvBytes:
		return "bytes"
	case api.EvDispatch:
		return "dispatch"
	case api.EvHang:
		return "hang"
	case api.EvWork:
		return "work"
	case api.EvCrash:
		return "crash"
	}
	return ""
}

// numberLine: a number alone, which is one of the event's fields.
type numberLine struct {
	event int
	field func(e *api.Event) *int
}

func (k numberLine) read(rest string) (api.Event, bool) {
	e := api.Event{Kind: k.event}
	n, ok := number(rest)
	*k.field(&e) = n
	return e, ok
}

func (k numberLine) say(e api.Event) string { return strconv.Itoa(*k.field(&e)) }

// hexLine: a client, and bytes with two digits each.
type hexLine struct{}

func (hexLine) read(rest string) (api.Event, bool) {
	who, digits, _ := strings.Cut(rest, " ")
	client, ok := number(who)
	if !ok || digits == "" || len(digits)%2 != 0 {
		return api.Event{}, false
	}
	data := make([]byte, 0, len(digits)/2)
	for i := 0; i < len(digits); i += 2 {
		high, low := strings.IndexByte(hexDigits, digits[i]), strings.IndexByte(hexDigits, digits[i+1])
		if high < 0 || low < 0 {
			return api.Event{}, false
		}
		data = append(data, byte(high<<4|low))
	}
	return api.Event{Kind: api.EvBytes, Client: client, Data: data}, true
}

func (hexLine) say(e api.Event) string {
	b := []byte(strconv.Itoa(e.Client) + " ")
	for _, c := range e.Data {
		b = append(b, hexDigits[c>>4], hexDigits[c&15])
	}
	return string(b)
}

// hexDigits: the digits of numbers 0 to 15.
const hexDigits = "0123456789abcdef"

// sendLine: a client, and a message's body as it is. No event is said so.
type sendLine struct{ hexLine }

func (sendLine) read(rest string) (api.Event, bool) {
	who, body, blank := strings.Cut(rest, " ")
	client, ok := number(who)
	data, e := frame.Encode([]byte(body))
	if !ok || !blank || e != api.OK {
		return api.Event{}, false
	}
	return api.Event{Kind: api.EvBytes, Client: client, Data: data}, true
}

// crashLine: the power, and how much is kept.
type crashLine struct{}

func (crashLine) read(rest string) (api.Event, bool) {
	var list []int
	for _, w := range strings.Split(rest, " ") {
		n, ok := number(w)
		if !ok {
			return api.Event{}, false
		}
		list = append(list, n)
	}
	return api.Event{Kind: api.EvCrash, Power: list[0], Keeps: list[1:]}, true
}

func (crashLine) say(e api.Event) string {
	words := []string{strconv.Itoa(e.Power)}
	for _, n := range e.Keeps {
		words = append(words, strconv.Itoa(n))
	}
	return strings.Join(words, " ")
}

// number: the number of a word.
func number(word string) (int, bool) {
	const most = 9 // digits
	digits := strings.TrimPrefix(word, "-")
	if len(digits) < 1 || len(digits) > most || digits[0] == '0' && word != "0" {
		return 0, false
	}
	n := 0
	for i := range len(digits) {
		if digits[i] < '0' || digits[i] > '9' {
			return 0, false
		}
		n = n*10 + int(digits[i]-'0')
	}
	if digits != word {
		n = -n
	}
	return n, true
}

// same: are two events alike?
func same(a, b api.Event) bool {
	return a.Kind == b.Kind && a.Client == b.Client && a.Worker == b.Worker && a.Power == b.Power && slices.Equal(a.Data, b.Data) && slices.Equal(a.Keeps, b.Keeps)
}
