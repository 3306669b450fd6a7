package engine

import (
	"tedder/api"
	"tedder/value"
)

// none gives the value where nothing was put.
func none() value.Value { return value.Of(api.Val{Kind: "none"}) }

// num gives a number's value.
func num(x float64) value.Value { return value.Of(api.Val{Kind: "num", Num: x}) }

// str gives a text's value.
func str(s string) value.Value { return value.Of(api.Val{Kind: "str", Str: s}) }

// truth gives 1 or 0.
func truth(is bool) value.Value {
	if is {
		return num(1)
	}
	return num(0)
}
