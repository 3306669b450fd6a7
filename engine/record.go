package engine

import "tedder/field"

// read makes a line the record; false at a fault.
func (e *Engine) read(line string) bool {
	separator, ok := e.textAt("FS")
	if !ok {
		return false
	}
	lines, ok := e.lines()
	if !ok {
		return false
	}
	record, ok := field.New(line, separator, lines)
	if !ok {
		return e.fail("ere")
	}
	e.record = record
	return true
}

// lines tells whether a byte 10 parts fields, too; the second answer is false at a fault.
func (e *Engine) lines() (bool, bool) {
	separator, ok := e.textAt("RS")
	return separator == "", ok
}

// remake changes the record, which has n fields then, and makes its line with OFS's text; false at a fault. change is false, if that can't be.
func (e *Engine) remake(n int, change func(ofs string) bool) bool {
	ofs, ok := e.textAt("OFS")
	if !ok {
		return false
	}
	// A line that is too long by what stands between its fields alone could be longer than memory is, so it isn't made. Nobody will see it.
	long := (n-1)*len(ofs) > e.limits.Length
	if long {
		ofs = ""
	}
	if !change(ofs) {
		return e.fail("field")
	}
	if long || len(e.record.Line()) > e.limits.Length {
		return e.fail("length")
	}
	return true
}
