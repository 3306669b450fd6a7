package engine

import (
	"math"

	"tedder/assoc"
	"tedder/value"
)

func doDrop(p *phase, s *step) bool {
	p.cut(len(p.stack) - s.Pop)
	return true
}

func doDelete(p *phase, _ *step) bool {
	l := p.element()
	l.array.Delete(l.key)
	return true
}

func doKeys(p *phase, _ *step) bool { return p.push(&keyList{p.array().Keys()}) }

// doEach puts the next key at the place below the list of keys; behind the last one it jumps.
func doEach(p *phase, s *step) bool {
	place, list := p.stack[len(p.stack)-2].(place), p.stack[len(p.stack)-1].(*keyList)
	if len(list.keys) == 0 {
		return doJump(p, s)
	}
	key := list.keys[0]
	list.keys = list.keys[1:]
	return place.put(p.Engine, value.Outside(key))
}

func doTick(p *phase, _ *step) bool {
	if p.ticks == p.limits.Ticks {
		return p.fail("tick")
	}
	p.ticks++
	return true
}

// doJump goes on elsewhere.
func doJump(p *phase, s *step) bool {
	p.frame().at = s.Jump
	return true
}

func doJumpIf(p *phase, s *step) bool {
	if value.True(p.value()) == (s.Do == "iftrue") {
		return doJump(p, s)
	}
	return true
}

func doStatus(p *phase, _ *step) bool {
	p.status = statusOf(value.Number(p.value()))
	return true
}

// statusOf gives a number, cut, modulo 256, from 0 up; 0 of what isn't finite.
func statusOf(x float64) int {
	if math.IsInf(x, 0) || math.IsNaN(x) {
		return 0
	}
	// As a byte a number below 0 counts from 256 down.
	return int(byte(int(math.Mod(math.Trunc(x), 256))))
}

func doExit(p *phase, _ *step) bool {
	p.over = "exit"
	return false
}

func doNext(*phase, *step) bool { return false }

func doCall(p *phase, s *step) bool {
	// The item's own part is no call.
	if len(p.frames) > p.limits.Depth {
		return p.fail("depth")
	}
	p.frames = append(p.frames, frame{part: s.called, bottom: len(p.stack) - s.Pop, answer: none()})
	return true
}

// doParams makes the parameters for which nothing was handed in.
func doParams(p *phase, s *step) bool {
	handed := len(p.stack) - p.frame().bottom
	for _, kind := range []byte(s.Text[handed:]) {
		if kind == 'a' {
			p.push(assoc.New())
		} else {
			p.push(none())
		}
	}
	return true
}

func doResult(p *phase, _ *step) bool {
	p.frame().answer = p.value()
	return true
}

// doLeave ends a part. Of a function it leaves the answer alone on the stack, of an item all that is there.
func doLeave(p *phase, _ *step) bool {
	f := *p.frame()
	p.frames = p.frames[:len(p.frames)-1]
	if len(p.frames) > 0 {
		p.cut(f.bottom)
		p.push(f.answer)
	}
	return true
}
