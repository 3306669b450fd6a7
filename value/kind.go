package value

import (
	"tedder/api"
	"tedder/dec"
)

// The four kinds.
type (
	none struct{}
	num  float64
	str  string
	both struct {
		text   string
		number float64
	}
)

func (none) isValue() {}
func (num) isValue()  {}
func (str) isValue()  {}
func (both) isValue() {}

// bothOf gives a text with its number.
func bothOf(s string) both {
	x, _ := dec.Prefix(s)
	return both{text: s, number: x}
}

// plainOf gives the Val of v.
func plainOf(v Value) api.Val {
	switch v := v.(type) {
	case num:
		return api.Val{Kind: "num", Num: float64(v)}
	case str:
		return api.Val{Kind: "str", Str: string(v)}
	case both:
		return api.Val{Kind: "both", Num: v.number, Str: v.text}
	}
	return api.Val{Kind: "none"}
}

// numberOf gives what v is as a number.
func numberOf(v Value) float64 {
	switch v := v.(type) {
	case num:
		return float64(v)
	case str:
		return bothOf(string(v)).number
	case both:
		return v.number
	}
	return 0
}

// textOf gives what v is as a text, of a number by the format conv.
func textOf(v Value, conv string) (string, bool) {
	switch v := v.(type) {
	case num:
		return numberText(float64(v), conv)
	case str:
		return string(v), true
	case both:
		return v.text, true
	}
	return "", true
}

// trueOf tells whether v counts as true.
func trueOf(v Value) bool {
	switch v := v.(type) {
	case num:
		return v != 0
	case str:
		return v != ""
	case both:
		return v.number != 0
	}
	return false
}

// textAlone tells whether v is a text, and no number beside.
func textAlone(v Value) bool {
	_, ok := v.(str)
	return ok
}
