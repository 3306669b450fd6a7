package input

import "strings"

// parted gives the spans between the bytes sep of s, and what stands behind the last one, if something does.
func parted(s string, sep byte) [][2]int {
	var l [][2]int
	for from := 0; from < len(s); {
		size := strings.IndexByte(s[from:], sep)
		if size < 0 {
			size = len(s) - from
		}
		l = append(l, [2]int{from, from + size})
		from += size + 1
	}
	return l
}

// paragraphs gives the spans between the runs of two or more bytes 10 of s, without those at its ends.
func paragraphs(s string) [][2]int {
	var l [][2]int
	end := len(strings.TrimRight(s, "\n"))
	for from := runSize(s); from < end; {
		size := strings.Index(s[from:end], "\n\n")
		if size < 0 {
			size = end - from
		}
		l = append(l, [2]int{from, from + size})
		from += size + runSize(s[from+size:])
	}
	return l
}

// runSize gives how many bytes 10 s begins with.
func runSize(s string) int {
	return len(s) - len(strings.TrimLeft(s, "\n"))
}
