package ere

import "tedder/api"

// noBound is a repeat's Hi, where there is no greatest count.
const noBound = -1

// atRepeat tells whether a repeat comes next, be it a right one or not.
func (r *reader) atRepeat() bool {
	switch {
	case r.at('*'), r.at('+'), r.at('?'):
		return true
	case !r.at('{'):
		return false
	}
	behind := *r
	behind.next()
	_, ok := behind.digit(10)
	return ok
}

// repeat reads a repeat, and gives what it makes of p.
func (r *reader) repeat(p part) (part, int) {
	switch r.next() {
	case '*':
		return p.repeated(0, noBound), 0
	case '+':
		return p.repeated(1, noBound), 0
	case '?':
		return p.repeated(0, 1), 0
	}
	lo, hi, ok := r.interval()
	if !ok {
		return part{}, api.EreRepeat
	}
	return p.repeated(lo, hi), 0
}

// interval reads what is behind a {: m}, m,} or m,n}.
func (r *reader) interval() (int, int, bool) {
	lo, ok := r.count()
	if !ok {
		return 0, 0, false
	}
	hi := lo
	if r.take(',') {
		hi, ok = r.upper(lo)
	}
	return lo, hi, ok && r.take('}')
}

// upper reads what is behind the comma of an interval; false, if it is neither nothing nor a count from lo on.
func (r *reader) upper(lo int) (int, bool) {
	if r.at('}') {
		return noBound, true
	}
	hi, ok := r.count()
	return hi, ok && lo <= hi
}

// count reads digits, and gives their number; false, if there are none, or it is above MaxTimes.
func (r *reader) count() (int, bool) {
	sum, some := 0, false
	for {
		n, ok := r.digit(10)
		if !ok {
			return sum, some && sum <= api.MaxTimes
		}
		// Beyond MaxTimes the number itself is of no use, and might grow too great for an int.
		sum, some = min(sum*10+n, api.MaxTimes+1), true
	}
}
