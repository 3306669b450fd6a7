package engine

import "tedder/api"

// act does a step; false, if the phase is at its end with it.
type act func(p *phase, s *step) bool

// actOf gives how an op is done.
func actOf(o api.Op) act {
	switch o.Do {
	case "bin":
		return binaryAct(o.Text)
	case "built":
		return builtAct(o.Text)
	}
	if a := valueAct(o.Do); a != nil {
		return a
	}
	return statementAct(o.Do)
}

// valueAct gives how an op is done that is part of an expression.
func valueAct(do string) act {
	switch do {
	case "num", "str":
		return doConstant
	case "ere":
		return doEre
	case "var":
		return doVariable
	case "&var":
		return doPlace
	case "local":
		return doLocal
	case "&local":
		return doLocalPlace
	case "array":
		return doArray
	case "key":
		return doKey
	case "elem":
		return doElement
	case "&elem":
		return doElementPlace
	case "in":
		return doIn
	case "field":
		return doField
	case "&field":
		return doFieldPlace
	case "unary":
		return doUnary
	case "assign":
		return doAssign
	case "pre", "post":
		return doCount
	case "call":
		return doCall
	}
	return nil
}

// binaryAct gives how an op between two values is done.
func binaryAct(text string) act {
	switch text {
	case "cat":
		return doCat
	case "<", "<=", "==", "!=", ">=", ">":
		return doCompare
	case "~", "!~":
		return doMatches
	}
	return doMix
}

// builtAct gives how a function of the language is done.
func builtAct(name string) act {
	switch name {
	case "length":
		return doLength
	case "substr":
		return doSubstr
	case "index":
		return doIndex
	case "split":
		return doSplit
	case "sub", "gsub":
		return doSub
	case "match":
		return doMatch
	case "sprintf":
		return doSprintf
	case "tolower", "toupper":
		return doLetters
	}
	return doInt
}

// statementAct gives how an op is done that isn't part of an expression.
func statementAct(do string) act {
	switch do {
	case "print":
		return doPrint
	case "printf":
		return doPrintf
	case "line":
		return doLine
	case "delete":
		return doDelete
	case "drop":
		return doDrop
	case "keys":
		return doKeys
	case "each":
		return doEach
	case "tick":
		return doTick
	case "jump":
		return doJump
	case "iftrue", "iffalse":
		return doJumpIf
	case "status":
		return doStatus
	case "exit":
		return doExit
	case "next":
		return doNext
	case "result":
		return doResult
	case "params":
		return doParams
	}
	return doLeave
}
