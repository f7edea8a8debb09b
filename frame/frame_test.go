package frame

import (
	"bytes"
	"encoding/hex"
	"hash/crc32"
	"math"
	"math/rand"
	"testing"

	"gurney/api"
)

// What is asked for is put together here by shifts and by sums of the tests' own, which share nothing with the layers below.

func shortOf(b []byte) uint16 {
	state := uint16(0xffff)
	for _, x := range b {
		state ^= uint16(x) << 8
		for range 8 {
			top := state >> 15
			state = state<<1 ^ top*0x1021
		}
	}
	return state
}

// sealed is four bytes of a head, a size and its right sum; data; and the right sum of all: whatever the size says.
func sealed(head [4]byte, size byte, data []byte) []byte {
	b := append(head[:], size)
	s := shortOf(b)
	b = append(b, byte(s>>8), byte(s))
	b = append(b, data...)
	l := crc32.ChecksumIEEE(b)
	return append(b, byte(l>>24), byte(l>>16), byte(l>>8), byte(l))
}

func bytesOf(f api.Frame) []byte {
	n := uint32(f.Tx<<24 | f.Seq<<12 | f.Ant<<9 | f.Rssi<<2 | f.Kind)
	return sealed([4]byte{byte(n >> 24), byte(n >> 16), byte(n >> 8), byte(n)}, byte(len(f.Data)), f.Data)
}

func unhex(t *testing.T, text string) []byte {
	t.Helper()
	b, err := hex.DecodeString(text)
	if err != nil {
		t.Fatal(err)
	}
	return b
}

func counted(many int) []byte {
	b := make([]byte, many)
	for i := range b {
		b[i] = byte(i)
	}
	return b
}

// written are frames and their bytes, written out.
func written() []struct {
	f    api.Frame
	text string
} {
	return []struct {
		f    api.Frame
		text string
	}{
		{api.Frame{}, "00000000" + "00" + "110c" + "c703b045"},
		{api.Frame{Tx: 255, Seq: 4095, Ant: 7, Rssi: 127, Kind: 3}, "ffffffff" + "00" + "cc9c" + "6109b8d2"},
		{api.Frame{Tx: 1}, "01000000" + "00" + "bb5d" + "29f08ef0"},
		{api.Frame{Seq: 1}, "00001000" + "00" + "526f" + "a80c0be3"},
		{api.Frame{Ant: 1}, "00000200" + "00" + "7f6c" + "0b0fc454"},
		{api.Frame{Rssi: 1}, "00000004" + "00" + "ddc8" + "b327b9f9"},
		{api.Frame{Kind: 1}, "00000001" + "00" + "223d" + "da0ab22a"},
		{api.Frame{Data: []byte{0}}, "00000000" + "01" + "012d" + "00" + "fc7688d4"},
		{api.Frame{Tx: 3, Seq: 0x120, Rssi: 40, Data: []byte("ward")}, "031200a0" + "04" + "54eb" + "77617264" + "af0c7e8f"},
		{api.Frame{Tx: 0xab, Seq: 0xcde, Ant: 5, Rssi: 0x55, Kind: 2, Data: []byte{1, 2, 3}}, "abcdeb56" + "03" + "990f" + "010203" + "cd19e663"},
		{api.Frame{Tx: 7, Seq: 0x7f0, Ant: 2, Rssi: 64, Kind: 1, Data: counted(60)}, "077f0501" + "3c" + "cf5d" + hex.EncodeToString(counted(60)) + "ea81498d"},
		{api.Frame{Tx: 255, Seq: 4095, Ant: 7, Rssi: 127, Kind: 3, Data: bytes.Repeat([]byte{255}, 60)}, "ffffffff" + "3c" + "3b43" + hex.EncodeToString(bytes.Repeat([]byte{255}, 60)) + "e8f71975"},
	}
}

// someFrames are right ones, the same each time: of each size, at the bounds and between.
func someFrames() []api.Frame {
	r := rand.New(rand.NewSource(3))
	var all []api.Frame
	for _, x := range written() {
		all = append(all, x.f)
	}
	for many := range api.MaxData + 1 {
		for range 4 {
			f := api.Frame{Tx: r.Intn(256), Seq: r.Intn(4096), Ant: r.Intn(8), Rssi: r.Intn(128), Kind: r.Intn(4), Data: make([]byte, many)}
			r.Read(f.Data)
			all = append(all, f)
		}
	}
	return all
}

// equal is Same by the tests' own words.
func equal(a, b api.Frame) bool {
	return a.Tx == b.Tx && a.Seq == b.Seq && a.Ant == b.Ant && a.Rssi == b.Rssi && a.Kind == b.Kind && string(a.Data) == string(b.Data)
}

type part struct {
	name string
	most int
	at   func(f *api.Frame) *int
}

// parts are a frame's numbers, the greatest that each may be, and where each stands.
func parts() []part {
	return []part{
		{"Tx", 255, func(f *api.Frame) *int { return &f.Tx }},
		{"Seq", 4095, func(f *api.Frame) *int { return &f.Seq }},
		{"Ant", 7, func(f *api.Frame) *int { return &f.Ant }},
		{"Rssi", 127, func(f *api.Frame) *int { return &f.Rssi }},
		{"Kind", 3, func(f *api.Frame) *int { return &f.Kind }},
	}
}

func checkRight(t *testing.T, f api.Frame, want bool) {
	t.Helper()
	if got := Right(f); got != want {
		t.Errorf("Right(%v) = %v, want %v", f, got, want)
	}
	got := Put(f)
	if !want && len(got) != 0 {
		t.Errorf("Put(%v) = %x, want none", f, got)
	}
	if want && !bytes.Equal(got, bytesOf(f)) {
		t.Errorf("Put(%v) = %x, want %x", f, got, bytesOf(f))
	}
}

func checkRefused(t *testing.T, b []byte, want api.Errno) {
	t.Helper()
	f, e := Parse(b)
	if e != want {
		t.Errorf("Parse(%x) tells %d, want %d", b, e, want)
	}
	if !equal(f, api.Frame{}) {
		t.Errorf("Parse(%x) = %v beside an error, want a zero frame", b, f)
	}
}

func checkParsed(t *testing.T, b []byte, want api.Frame) {
	t.Helper()
	if f, e := Parse(b); e != api.OK || !equal(f, want) {
		t.Errorf("Parse(%x) = %v, %d, want %v, 0", b, f, e, want)
	}
}

func TestExample(t *testing.T) {
	for _, data := range [][]byte{nil, {}, make([]byte, 0, 8)} {
		b := Put(api.Frame{Tx: 1, Seq: 2, Ant: 3, Rssi: 4, Kind: 1, Data: data})
		if len(b) != 11 {
			t.Errorf("a frame of no Data has %d bytes, want 11", len(b))
		}
	}
}

func TestRightAtTheBounds(t *testing.T) {
	top := api.Frame{Tx: 255, Seq: 4095, Ant: 7, Rssi: 127, Kind: 3, Data: counted(60)}
	for _, base := range []api.Frame{{}, {Tx: 9, Seq: 300, Ant: 2, Rssi: 50, Kind: 1, Data: []byte("x")}, top} {
		checkRight(t, base, true)
		for _, p := range parts() {
			for _, n := range []int{0, 1, p.most / 2, p.most - 1, p.most} {
				f := base
				*p.at(&f) = n
				checkRight(t, f, true)
			}
			for _, n := range []int{-1, -2, -p.most, -p.most - 1, p.most + 1, p.most + 2, 2*p.most + 1, 2*p.most + 2, 1 << 16, 1 << 32, 1<<32 + 1, -1 << 32, math.MinInt32, math.MaxInt32, math.MinInt, math.MaxInt} {
				f := base
				*p.at(&f) = n
				checkRight(t, f, false)
			}
		}
	}
}

func TestRightOfData(t *testing.T) {
	for _, data := range [][]byte{nil, {}, make([]byte, 0, 100), counted(1), counted(59), counted(60), make([]byte, 60, 100)} {
		checkRight(t, api.Frame{Tx: 5, Data: data}, true)
	}
	for _, many := range []int{61, 62, 63, 64, 127, 128, 255, 256, 257, 300, 316, 317, 1 << 16} {
		checkRight(t, api.Frame{Tx: 5, Data: make([]byte, many)}, false)
	}
}

func TestRightOfSeveralWrongs(t *testing.T) {
	checkRight(t, api.Frame{Tx: 256, Seq: -1}, false)
	checkRight(t, api.Frame{Kind: 4, Data: make([]byte, 61)}, false)
	checkRight(t, api.Frame{Tx: -1, Seq: -1, Ant: -1, Rssi: -1, Kind: -1, Data: make([]byte, 61)}, false)
}

func TestPutOfWritten(t *testing.T) {
	for _, x := range written() {
		want := unhex(t, x.text)
		if got := Put(x.f); !bytes.Equal(got, want) {
			t.Errorf("Put(%v) = %x, want %x", x.f, got, want)
		}
		checkParsed(t, want, x.f)
	}
}

func TestSame(t *testing.T) {
	for _, f := range append(someFrames(), api.Frame{Tx: -1, Seq: 9999, Data: counted(70)}) {
		g := f
		g.Data = bytes.Clone(f.Data)
		if !Same(f, f) || !Same(f, g) || !Same(g, f) {
			t.Errorf("%v isn't the same as itself", f)
		}
		for _, p := range parts() {
			for _, by := range []int{1, -1, 256, 4096, 1 << 32, math.MinInt} {
				g := f
				*p.at(&g) += by
				if Same(f, g) || Same(g, f) {
					t.Errorf("%v and %v are the same, in spite of %s", f, g, p.name)
				}
			}
		}
	}
}

func TestSameOfData(t *testing.T) {
	base := api.Frame{Tx: 1, Seq: 2, Ant: 3, Rssi: 4, Kind: 1}
	datas := [][]byte{nil, {0}, {1}, {0, 0}, {0, 1}, {1, 0}, counted(60), counted(61), make([]byte, 60), make([]byte, 61)}
	for i, x := range datas {
		for j, y := range datas {
			f, g := base, base
			f.Data, g.Data = x, y
			if Same(f, g) != (i == j) {
				t.Errorf("Same of Data %x and %x isn't %v", x, y, i == j)
			}
		}
	}
	for i := range 60 {
		f, g := base, base
		f.Data, g.Data = counted(60), counted(60)
		g.Data[i] ^= 128
		if Same(f, g) || Same(g, f) {
			t.Errorf("Data that differ at %d are the same", i)
		}
	}
	empties := [][]byte{nil, {}, make([]byte, 0, 9), counted(9)[:0]}
	for _, x := range empties {
		for _, y := range empties {
			f, g := base, base
			f.Data, g.Data = x, y
			if !Same(f, g) {
				t.Error("nil Data and empty Data aren't the same")
			}
		}
	}
}

func TestShort(t *testing.T) {
	whole := bytesOf(api.Frame{Tx: 1, Seq: 2, Ant: 3, Rssi: 4, Kind: 1})
	bad := bytes.Repeat([]byte{0xa5}, 11)
	checkRefused(t, nil, api.ErrShort)
	checkRefused(t, []byte{}, api.ErrShort)
	for many := range 11 {
		checkRefused(t, whole[:many], api.ErrShort)
		checkRefused(t, make([]byte, many), api.ErrShort)
		checkRefused(t, bad[:many], api.ErrShort)
	}
	checkParsed(t, whole, api.Frame{Tx: 1, Seq: 2, Ant: 3, Rssi: 4, Kind: 1})
	checkRefused(t, bad, api.ErrHead)
}

func TestHeadSum(t *testing.T) {
	for _, f := range []api.Frame{{}, {Tx: 255, Seq: 4095, Ant: 7, Rssi: 127, Kind: 3, Data: counted(60)}} {
		whole := bytesOf(f)
		right := int(shortOf(whole[:5]))
		for n := range 1 << 16 {
			if n != right {
				b := bytes.Clone(whole)
				b[5], b[6] = byte(n>>8), byte(n)
				if _, e := Parse(b); e != api.ErrHead {
					t.Fatalf("Parse tells %d with the sum %x in the place of %x, want ErrHead", e, n, right)
				}
			}
		}
	}
	checkRefused(t, make([]byte, 11), api.ErrHead)
	checkRefused(t, make([]byte, 10000), api.ErrHead)
}

// resummed is bytes with the last four of them the right sum again.
func resummed(b []byte) []byte {
	ahead := bytes.Clone(b[:len(b)-4])
	l := crc32.ChecksumIEEE(ahead)
	return append(ahead, byte(l>>24), byte(l>>16), byte(l>>8), byte(l))
}

func TestHeadAheadOfSizeAndSum(t *testing.T) {
	whole := bytesOf(api.Frame{Tx: 9, Seq: 77, Ant: 1, Rssi: 90, Kind: 2, Data: counted(5)})
	for i := range 7 {
		for bit := range 8 {
			b := bytes.Clone(whole)
			b[i] ^= 1 << bit
			checkRefused(t, b, api.ErrHead)
			checkRefused(t, resummed(b), api.ErrHead)
			checkRefused(t, b[:11], api.ErrHead)
			checkRefused(t, append(b, 0), api.ErrHead)
		}
	}
	long := sealed([4]byte{9, 9, 9, 9}, 61, counted(61))
	long[6] ^= 1
	checkRefused(t, long, api.ErrHead)
}

func TestSize(t *testing.T) {
	head := [4]byte{0xab, 0xcd, 0xeb, 0x56}
	for size := range 256 {
		for many := range 270 {
			b := sealed(head, byte(size), make([]byte, many))
			spoilt := bytes.Clone(b)
			spoilt[len(b)-1] ^= 1
			want, wantSpoilt := api.ErrSize, api.ErrSize
			if size == many && size <= 60 {
				want, wantSpoilt = api.OK, api.ErrSum
			}
			if _, e := Parse(b); e != want {
				t.Fatalf("Parse tells %d of the size %d and %d bytes, want %d", e, size, many, want)
			}
			if _, e := Parse(spoilt); e != wantSpoilt {
				t.Fatalf("Parse tells %d of the size %d, %d bytes and another sum, want %d", e, size, many, wantSpoilt)
			}
		}
	}
	for _, size := range []byte{61, 62, 64, 255} {
		checkRefused(t, sealed(head, size, counted(int(size))), api.ErrSize)
	}
	checkRefused(t, sealed(head, 1, nil), api.ErrSize)
	checkRefused(t, sealed(head, 0, counted(1)), api.ErrSize)
	checkRefused(t, sealed(head, 60, counted(59)), api.ErrSize)
	checkRefused(t, sealed(head, 60, counted(61)), api.ErrSize)
	checkRefused(t, sealed(head, 4, make([]byte, 4+256)), api.ErrSize)
	checkRefused(t, sealed(head, 4, make([]byte, 1<<16)), api.ErrSize)
}

func TestSum(t *testing.T) {
	for _, f := range []api.Frame{{}, {Tx: 1, Data: []byte{7}}, {Tx: 255, Seq: 4095, Ant: 7, Rssi: 127, Kind: 3, Data: counted(60)}} {
		whole := bytesOf(f)
		ahead := len(whole) - 4
		right := crc32.ChecksumIEEE(whole[:ahead])
		for _, n := range []uint32{0, 1, math.MaxUint32, right - 1, right + 1, ^right, right<<8 | right>>24, right ^ 1<<31} {
			b := bytes.Clone(whole)
			b[ahead], b[ahead+1], b[ahead+2], b[ahead+3] = byte(n>>24), byte(n>>16), byte(n>>8), byte(n)
			checkRefused(t, b, api.ErrSum)
		}
		for i := 7; i < len(whole); i++ {
			for by := 1; by < 256; by++ {
				b := bytes.Clone(whole)
				b[i] ^= byte(by)
				checkRefused(t, b, api.ErrSum)
			}
		}
	}
}

func TestHeardByEach(t *testing.T) {
	for _, f := range []api.Frame{{}, {Tx: 3, Seq: 0x120, Ant: 4, Rssi: 40, Kind: 1, Data: []byte("ward")}, {Tx: 255, Seq: 4095, Ant: 7, Rssi: 127, Kind: 3, Data: counted(60)}} {
		b := bytesOf(f)
		for ant := range 8 {
			for rssi := range 128 {
				want := f
				want.Ant, want.Rssi = ant, rssi
				if got := Heard(b, ant, rssi); !bytes.Equal(got, bytesOf(want)) {
					t.Fatalf("Heard(%x, %d, %d) = %x, want %x", b, ant, rssi, got, bytesOf(want))
				}
			}
		}
	}
}

func TestHeardByNone(t *testing.T) {
	b := bytesOf(api.Frame{Tx: 3, Seq: 0x120, Ant: 4, Rssi: 40, Kind: 1, Data: []byte("ward")})
	for _, ant := range []int{math.MinInt, -8, -1, 8, 9, 16, 256, 1 << 32, math.MaxInt} {
		for _, rssi := range []int{0, 64, 127, -1, 128} {
			if got := Heard(b, ant, rssi); len(got) != 0 {
				t.Errorf("Heard by antenna %d, strength %d: %x, want none", ant, rssi, got)
			}
		}
	}
	for _, rssi := range []int{math.MinInt, -128, -1, 128, 129, 255, 256, 1 << 32, math.MaxInt} {
		for _, ant := range []int{0, 4, 7, -1, 8} {
			if got := Heard(b, ant, rssi); len(got) != 0 {
				t.Errorf("Heard by antenna %d, strength %d: %x, want none", ant, rssi, got)
			}
		}
	}
}

func TestHeardOfNoFrame(t *testing.T) {
	whole := bytesOf(api.Frame{Tx: 3, Seq: 0x120, Ant: 4, Rssi: 40, Kind: 1, Data: []byte("ward")})
	refused := [][]byte{nil, {}, make([]byte, 11), whole[1:], append(bytes.Clone(whole), 0), sealed([4]byte{}, 61, counted(61)), sealed([4]byte{}, 1, nil)}
	for i := range whole {
		b := bytes.Clone(whole)
		b[i] ^= 16
		refused = append(refused, b, whole[:i])
	}
	for _, b := range refused {
		for _, x := range [][2]int{{0, 0}, {4, 40}, {7, 127}, {8, 0}, {0, -1}} {
			if got := Heard(b, x[0], x[1]); len(got) != 0 {
				t.Errorf("Heard(%x, %d, %d) = %x, want none", b, x[0], x[1], got)
			}
		}
	}
}

// roomy is a copy of bytes with spare room behind it, and all of it.
func roomy(b []byte) (short, whole []byte) {
	whole = append(bytes.Clone(b), bytes.Repeat([]byte{0xee}, 80)...)
	return whole[:len(b)], whole
}

func spoil(b []byte) {
	b = b[:cap(b)]
	for i := range b {
		b[i] ^= 0xff
	}
}

func TestNothingHandedInIsChangedOrShared(t *testing.T) {
	for _, f := range someFrames() {
		want := bytesOf(f)
		in, whole := roomy(want)
		kept := bytes.Clone(whole)
		heard := Heard(in, 1, 2)
		parsed, _ := Parse(in)
		heardWant := bytes.Clone(heard)
		if !bytes.Equal(whole, kept) {
			t.Fatalf("bytes that were handed in are changed: %x, and were %x", whole, kept)
		}
		spoil(whole)
		if !bytes.Equal(heard, heardWant) || !equal(parsed, f) {
			t.Fatal("an answer shares memory with the bytes that were handed in")
		}
		spoilt := bytes.Clone(whole)
		spoil(heard)
		spoil(parsed.Data)
		if !bytes.Equal(whole, spoilt) {
			t.Fatal("bytes that were handed in share memory with an answer")
		}
	}
}

func TestDataIsNotChangedOrShared(t *testing.T) {
	for _, f := range someFrames() {
		data, whole := roomy(f.Data)
		kept := bytes.Clone(whole)
		g := f
		g.Data = data
		b := Put(g)
		if !Right(g) || !Same(f, g) {
			t.Errorf("%v isn't right, or not the same with spare room", f)
		}
		spoilt := Put(g)
		spoil(spoilt)
		if !bytes.Equal(whole, kept) {
			t.Fatalf("a frame's Data are changed: %x, and were %x", whole, kept)
		}
		spoil(whole)
		if !bytes.Equal(b, bytesOf(f)) {
			t.Fatal("an answer shares memory with a frame's Data")
		}
	}
}

func TestPutIsParsedAgain(t *testing.T) {
	for _, f := range someFrames() {
		b := Put(f)
		if !bytes.Equal(b, bytesOf(f)) {
			t.Errorf("Put(%v) = %x, want %x", f, b, bytesOf(f))
		}
		g, e := Parse(b)
		if e != api.OK || !equal(f, g) || !Same(f, g) {
			t.Errorf("%v is put, and %v, %d parsed", f, g, e)
		}
	}
}

func TestParsedIsPutAgain(t *testing.T) {
	r := rand.New(rand.NewSource(4))
	for range 2000 {
		var head [4]byte
		r.Read(head[:])
		data := make([]byte, r.Intn(61))
		r.Read(data)
		b := sealed(head, byte(len(data)), data)
		f, e := Parse(b)
		if e != api.OK || !Right(f) {
			t.Fatalf("Parse(%x) = %v, %d", b, f, e)
		}
		if got := Put(f); !bytes.Equal(got, b) {
			t.Fatalf("%x is parsed, and %x put", b, got)
		}
		if got := Heard(b, f.Ant, f.Rssi); !bytes.Equal(got, b) {
			t.Fatalf("%x is heard as it was, and is %x", b, got)
		}
	}
}

func TestOneBitTurned(t *testing.T) {
	for _, f := range someFrames() {
		b := Put(f)
		for i := range 8 * len(b) {
			b[i/8] ^= 1 << (i % 8)
			want := api.ErrSum
			if i/8 < 7 {
				want = api.ErrHead
			}
			checkRefused(t, b, want)
			b[i/8] ^= 1 << (i % 8)
		}
		checkParsed(t, b, f)
	}
}

func TestCutOff(t *testing.T) {
	for _, f := range someFrames() {
		b := Put(f)
		for i := range b {
			want := api.ErrSize
			if i < 11 {
				want = api.ErrShort
			}
			checkRefused(t, b[:i], want)
		}
	}
}

func TestOneByteMore(t *testing.T) {
	for _, f := range someFrames() {
		b := Put(f)
		for x := range 256 {
			checkRefused(t, append(bytes.Clone(b), byte(x)), api.ErrSize)
		}
		if _, e := Parse(append([]byte{byte(f.Tx + 1)}, b...)); e == api.OK {
			t.Errorf("%x with a byte ahead is a frame", b)
		}
	}
}
