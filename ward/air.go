package ward

import "bytes"

// fates are a turn's: one behind the other, and again from the first one on.
type fates struct {
	list []byte
	at   int
}

func (f *fates) next() byte {
	if len(f.list) == 0 {
		return 0
	}
	fate := f.list[f.at]
	f.at = (f.at + 1) % len(f.list)
	return fate
}

// A fate's lowest three bits are what befalls bytes; behind them stand two of the antenna, and three of the strength.
func befalls(fate byte) int  { return int(fate & 7) }
func antenna(fate byte) int  { return int(fate >> 3 & 3) }
func strength(fate byte) int { return 40 + 8*int(fate>>5) }

// path is a way through the air, in a turn: what arrives at its end, and what will in the next turn.
type path struct{ arrived, late [][]byte }

// begin is the path on which what was late arrives ahead of all else; that is cut, so that nothing is appended over its room.
func begin(late [][]byte) *path { return &path{arrived: late[:len(late):len(late)]} }

// send does with bytes what befalls them by their fate.
func (p *path) send(b []byte, fate byte) {
	[8]func(*path, []byte, byte){
		(*path).arrive,
		(*path).arrive,
		(*path).arrive,
		(*path).arrive,
		(*path).lose,
		(*path).arriveTwice,
		(*path).delay,
		(*path).turn,
	}[befalls(fate)](p, b, fate)
}

func (p *path) arrive(b []byte, _ byte) { p.arrived = append(p.arrived, b) }

func (p *path) lose([]byte, byte) {}

func (p *path) arriveTwice(b []byte, _ byte) { p.arrived = append(p.arrived, b, b) }

func (p *path) delay(b []byte, _ byte) { p.late = append(p.late, b) }

// turn turns the lowest bit of one byte. (Bytes of a frame are never none.)
func (p *path) turn(b []byte, fate byte) {
	turned := bytes.Clone(b)
	turned[int(fate)%len(b)] ^= 1
	p.arrived = append(p.arrived, turned)
}
