package line_test

import (
	"bytes"
	"encoding/binary"
	"encoding/hex"
	"hash/crc32"
	"math"
	"math/rand"
	"reflect"
	"slices"
	"strings"
	"testing"

	"stowage/api"
	"stowage/line"
)

const someKey = "0123456789abcdef"

// random: the same in each run with one seed.
func random(seed int) *rand.Rand { return rand.New(rand.NewSource(int64(seed))) }

// someLine: any line that can be, the same in each run with one seed.
func someLine(seed int) api.Line {
	r := random(seed)
	number := func(most int) int { return min(most, r.Intn(most+1)>>r.Intn(41)+r.Intn(2)) }
	l := api.Line{
		Generation: number(1<<31 - 1),
		Seq:        number(1<<31 - 1),
		Last:       r.Intn(2) == 1,
		Rec:        api.Rec{Kind: r.Intn(10), A: number(1 << 40), B: number(1 << 40), C: number(1 << 40), D: number(1 << 40)},
	}
	if r.Intn(2) == 1 {
		key := make([]byte, api.KeySize)
		r.Read(key)
		l.Rec.Key = string(key)
	}
	return l
}

// full: a line of which nothing is 0.
func full() api.Line {
	return api.Line{Generation: 258, Seq: 3, Last: true, Rec: api.Rec{Kind: 1, A: 2, B: 3, C: 1 << 40, D: 5, Key: someKey}}
}

// summed: a sector with the sum of what stands ahead of it.
func summed(b []byte) []byte {
	out := bytes.Clone(b)
	binary.BigEndian.PutUint32(out[60:], crc32.ChecksumIEEE(out[:60]))
	return out
}

// wordForWord: a line's sector as the document says it.
func wordForWord(l api.Line) []byte {
	b := []byte("SL")
	b = binary.BigEndian.AppendUint32(b, uint32(l.Generation))
	b = binary.BigEndian.AppendUint32(b, uint32(l.Seq))
	if l.Last {
		b = append(b, 1)
	} else {
		b = append(b, 0)
	}
	b = append(b, byte(l.Rec.Kind))
	for _, n := range []int{l.Rec.A, l.Rec.B, l.Rec.C, l.Rec.D} {
		b = append(b, binary.BigEndian.AppendUint64(nil, uint64(n))[1:]...)
	}
	b = append(b, byte(len(l.Rec.Key)))
	b = append(b, l.Rec.Key...)
	return summed(append(b, make([]byte, 64-len(b))...))
}

// fits: what Encode has to say of a line, number by number.
func fits(l api.Line) api.Errno {
	r := l.Rec
	for _, c := range []struct{ n, most int }{{l.Generation, 2147483647}, {l.Seq, 2147483647}, {r.Kind, 9}, {r.A, 1099511627776}, {r.B, 1099511627776}, {r.C, 1099511627776}, {r.D, 1099511627776}} {
		if c.n < 0 || c.n > c.most {
			return api.ErrRange
		}
	}
	if n := len(r.Key); n != 0 && n != 16 {
		return api.ErrArg
	}
	return api.OK
}

// told: the line that bytes are, field by field, and whether they are one.
func told(b []byte) (api.Line, bool) {
	if len(b) != 64 || string(b[:2]) != "SL" || binary.BigEndian.Uint32(b[60:]) != crc32.ChecksumIEEE(b[:60]) {
		return api.Line{}, false
	}
	seven := func(at int) int { return int(binary.BigEndian.Uint64(append([]byte{0}, b[at:at+7]...))) }
	l := api.Line{
		Generation: int(binary.BigEndian.Uint32(b[2:])),
		Seq:        int(binary.BigEndian.Uint32(b[6:])),
		Last:       b[10] == 1,
		Rec:        api.Rec{Kind: int(b[11]), A: seven(12), B: seven(19), C: seven(26), D: seven(33)},
	}
	size := int(b[40])
	if size > 16 || b[10] > 1 {
		return api.Line{}, false
	}
	l.Rec.Key = string(b[41 : 41+size])
	if strings.Trim(string(b[41+size:60]), "\x00") != "" || fits(l) != api.OK {
		return api.Line{}, false
	}
	return l, true
}

// numbersOf: a line's numbers, to be changed one by one, and the greatest that each may be.
func numbersOf(l *api.Line) ([]*int, []int) {
	r := &l.Rec
	return []*int{&l.Generation, &l.Seq, &r.Kind, &r.A, &r.B, &r.C, &r.D},
		[]int{1<<31 - 1, 1<<31 - 1, 9, api.MaxTime, api.MaxTime, api.MaxTime, api.MaxTime}
}

func encoded(t *testing.T, l api.Line) []byte {
	t.Helper()
	b, e := line.Encode(l)
	if len(b) != api.Sector || e != api.OK {
		t.Fatalf("Encode(%+v) = %x, %d", l, b, e)
	}
	return b
}

// check: a line is written as wanted, and read again.
func check(t *testing.T, l api.Line, want []byte) {
	t.Helper()
	if b, e := line.Encode(l); !bytes.Equal(b, want) || e != api.OK {
		t.Errorf("Encode(%+v) = %x, %d, want %x", l, b, e, want)
	}
	if got, e := line.Decode(want); got != l || e != api.OK {
		t.Errorf("Decode(%x) = %+v, %d, want %+v", want, got, e, l)
	}
}

func notEncoded(t *testing.T, l api.Line, want api.Errno) {
	t.Helper()
	if b, e := line.Encode(l); b != nil || e != want {
		t.Errorf("Encode(%+v) = %x, %d, want %d", l, b, e, want)
	}
}

func notDecoded(t *testing.T, b []byte) {
	t.Helper()
	if l, e := line.Decode(b); l != (api.Line{}) || e != api.ErrForm {
		t.Errorf("Decode(%x) = %+v, %d, want %d", b, l, e, api.ErrForm)
	}
}

// decodesAsTold: what Decode answers is what the bytes tell, field by field.
func decodesAsTold(t *testing.T, b []byte) {
	t.Helper()
	if l, is := told(b); is {
		check(t, l, b)
	} else {
		notDecoded(t, b)
	}
}

// P15.1

func TestKnownSectors(t *testing.T) {
	for _, c := range []struct {
		l    api.Line
		want string
	}{
		{
			full(),
			"534c000001020000000301010000000000000200000000000003000100000000" +
				"00000000000000051030313233343536373839616263646566000000e973cf8a",
		},
		{
			api.Line{},
			"534c000000000000000000000000000000000000000000000000000000000000" +
				"00000000000000000000000000000000000000000000000000000000fcadbfd4",
		},
		{
			api.Line{Generation: 1<<31 - 1, Seq: 1<<31 - 2, Rec: api.Rec{Kind: 9, A: 1 << 40, B: 1<<40 - 1, C: 0x102030405, D: 1 << 32, Key: strings.Repeat("\x00", 15) + "\xff"}},
			"534c7fffffff7ffffffe0009000100000000000000ffffffffff000001020304" +
				"050000010000000010000000000000000000000000000000ff000000af8f2bc4",
		},
	} {
		want, err := hex.DecodeString(c.want)
		if err != nil {
			t.Fatal(err)
		}
		check(t, c.l, want)
	}
}

func TestLinesAreWrittenAsItIsSaid(t *testing.T) {
	for seed := range 3000 {
		l := someLine(seed)
		check(t, l, wordForWord(l))
	}
}

func TestNumbersAtTheirEnds(t *testing.T) {
	for _, l := range []api.Line{{}, full(), {Seq: 7, Last: true}} {
		_, most := numbersOf(&l)
		for i := range most {
			for _, n := range []int{0, 1, 2, most[i] / 2, most[i] - 1, most[i]} {
				turned := l
				numbers, _ := numbersOf(&turned)
				*numbers[i] = n
				check(t, turned, wordForWord(turned))
			}
			for _, n := range []int{-1, -2, -most[i], most[i] + 1, 2*most[i] + 1, 1<<40 + 1, 1 << 56, 1<<56 + 1, -1 << 32, -1 << 56, math.MaxInt, math.MinInt, math.MinInt + 1} {
				turned := l
				numbers, _ := numbersOf(&turned)
				*numbers[i] = n
				notEncoded(t, turned, api.ErrRange)
			}
		}
	}
}

// A number that does not count modulo anything: beyond its bytes it is no small one again.
func TestNumbersBeyondTheirBytes(t *testing.T) {
	for i, bits := range []int{32, 32, 8, 56, 56, 56, 56} {
		l := full()
		numbers, _ := numbersOf(&l)
		*numbers[i] += 1 << bits
		notEncoded(t, l, api.ErrRange)
	}
}

func TestEachKindIsWritten(t *testing.T) {
	for kind := range 10 {
		l := full()
		l.Rec.Kind = kind
		check(t, l, wordForWord(l))
		l.Rec.Key = ""
		check(t, l, wordForWord(l))
	}
}

func TestKeys(t *testing.T) {
	l := full()
	for n := range 600 {
		l.Rec.Key = strings.Repeat("k", n)
		if n == 0 || n == api.KeySize {
			check(t, l, wordForWord(l))
		} else {
			notEncoded(t, l, api.ErrArg)
		}
	}
	l.Rec.Key = strings.Repeat("k", 1<<20)
	notEncoded(t, l, api.ErrArg)
	// Sixteen runes of two bytes are 32 bytes, eight of them are 16.
	l.Rec.Key = strings.Repeat("ä", 16)
	notEncoded(t, l, api.ErrArg)
	l.Rec.Key = strings.Repeat("ä", 8)
	check(t, l, wordForWord(l))
	l.Rec.Key = strings.Repeat("\xff", 16)
	check(t, l, wordForWord(l))
}

// A key of bytes 0 is not no key.
func TestAKeyOfBytes0(t *testing.T) {
	with, without := api.Line{Rec: api.Rec{Key: strings.Repeat("\x00", 16)}}, api.Line{}
	check(t, with, wordForWord(with))
	check(t, without, wordForWord(without))
	if bytes.Equal(encoded(t, with), encoded(t, without)) {
		t.Error("a key of bytes 0 is written as none")
	}
}

// R2: ErrRange is named ahead of ErrArg.
func TestWhichErrorGoesAhead(t *testing.T) {
	for _, key := range []string{"x", someKey[1:], someKey + "x"} {
		_, most := numbersOf(&api.Line{})
		for i := range most {
			for _, n := range []int{-1, most[i] + 1, math.MinInt, math.MaxInt} {
				l := full()
				numbers, _ := numbersOf(&l)
				*numbers[i] = n
				l.Rec.Key = key
				notEncoded(t, l, api.ErrRange)
			}
		}
	}
}

func TestSizesThatAreNoSector(t *testing.T) {
	b := encoded(t, full())
	room := append(bytes.Clone(b), b...)
	for n := range room {
		if n != api.Sector {
			notDecoded(t, room[:n:n])
			notDecoded(t, room[:n])
		}
	}
	for i := 1; i < api.Sector; i++ {
		notDecoded(t, b[i:])
		notDecoded(t, room[i:i+api.Sector])
	}
	notDecoded(t, nil)
	notDecoded(t, append(bytes.Clone(b), 0))
	notDecoded(t, append([]byte{0}, b...))
	notDecoded(t, make([]byte, 1<<20))
}

// A sector that was never written is no line; nor are others of one byte.
func TestSectorsOfOneByte(t *testing.T) {
	for x := range 256 {
		b := bytes.Repeat([]byte{byte(x)}, api.Sector)
		notDecoded(t, b)
		notDecoded(t, summed(b))
	}
}

func TestEachTurnedBitIsSeen(t *testing.T) {
	for _, l := range []api.Line{{}, full(), someLine(1), someLine(2)} {
		b := encoded(t, l)
		for bit := range 8 * len(b) {
			turned := bytes.Clone(b)
			turned[bit/8] ^= 1 << (bit % 8)
			notDecoded(t, turned)
		}
	}
}

// With the right sum a changed byte makes another line, or none: its mark, what is not 0 or 1 as Last, numbers out of
// their bounds, sizes of keys that are none, and bytes that have to be 0 and are not.
func TestARightSumAloneMakesNoLine(t *testing.T) {
	none := 0
	for _, l := range []api.Line{{}, full(), {Generation: 1<<31 - 1, Rec: api.Rec{Kind: 9, A: 1 << 40, B: 1 << 40, C: 1 << 40, D: 1 << 40}}} {
		b := wordForWord(l)
		for i := range 60 {
			for x := range 256 {
				turned := bytes.Clone(b)
				turned[i] = byte(x)
				turned = summed(turned)
				decodesAsTold(t, turned)
				if _, is := told(turned); !is {
					none++
				}
			}
		}
	}
	if none == 0 || none == 3*60*256 {
		t.Errorf("of all changes %d make no line", none)
	}
}

func TestFaultsUnderARightSum(t *testing.T) {
	turn := func(l api.Line, at int, with ...byte) []byte {
		b := wordForWord(l)
		copy(b[at:], with)
		return summed(b)
	}
	bare := full()
	bare.Rec.Key = ""
	for what, b := range map[string][]byte{
		"another mark":               turn(full(), 0, 'S', 'H'),
		"a small mark":               turn(full(), 0, 's', 'l'),
		"a turned mark":              turn(full(), 0, 'L', 'S'),
		"a generation of 2^31":       turn(full(), 2, 0x80, 0, 0, 0),
		"a generation of 2^32 - 1":   turn(full(), 2, 0xff, 0xff, 0xff, 0xff),
		"a seq of 2^31":              turn(full(), 6, 0x80, 0, 0, 0),
		"a last of 2":                turn(full(), 10, 2),
		"a last of 255":              turn(full(), 10, 255),
		"kind 10":                    turn(full(), 11, 10),
		"kind 255":                   turn(full(), 11, 255),
		"an A of 2^40 + 1":           turn(full(), 12, 0, 1, 0, 0, 0, 0, 1),
		"a B of 2^41":                turn(full(), 19, 0, 2, 0, 0, 0, 0, 0),
		"a C of 2^48":                turn(full(), 26, 1, 0, 0, 0, 0, 0, 0),
		"a D of 2^56 - 1":            turn(full(), 33, 255, 255, 255, 255, 255, 255, 255),
		"a key of 15 bytes":          turn(full(), 40, 15),
		"a key of 1 byte":            turn(full(), 40, 1),
		"a key of 17 bytes":          turn(full(), 40, 17),
		"a key of 19 bytes":          turn(full(), 40, 19),
		"a key of 255 bytes":         turn(full(), 40, 255),
		"no key, and yet its bytes":  turn(full(), 40, 0),
		"no key, and yet its end":    turn(bare, 56, 1),
		"a key of 15 bytes and a 0":  turn(full(), 40, append([]byte{15}, someKey[:15]+"\x00"...)...),
		"a key of 1 byte and 0s":     turn(bare, 40, 1, 'x'),
		"a byte behind the key":      turn(full(), 57, 1),
		"a byte ahead of the sum":    turn(full(), 59, 1),
		"a byte behind no key":       turn(bare, 59, 128),
		"a key of 16 bytes, shifted": turn(bare, 40, append([]byte{16, 0}, someKey...)...),
	} {
		if l, e := line.Decode(b); l != (api.Line{}) || e != api.ErrForm {
			t.Errorf("%s: %+v, %d", what, l, e)
		}
	}
}

func TestSumsThatAreNone(t *testing.T) {
	b := wordForWord(full())
	sum := binary.BigEndian.Uint32(b[60:])
	for _, other := range []uint32{0, ^sum, sum + 1, sum - 1, sum<<8 | sum>>24, crc32.ChecksumIEEE(b[:59]), crc32.ChecksumIEEE(b[2:60]), crc32.ChecksumIEEE(b)} {
		turned := bytes.Clone(b)
		binary.BigEndian.PutUint32(turned[60:], other)
		notDecoded(t, turned)
	}
	turned := bytes.Clone(b)
	binary.LittleEndian.PutUint32(turned[60:], sum)
	notDecoded(t, turned)
	notDecoded(t, append(bytes.Clone(b[:60]), 0, 0, 0, 0))
}

// P15.2

// sectorsOf: of lines, whatever they are.
func sectorsOf(lines ...api.Line) [][]byte {
	var sectors [][]byte
	for _, l := range lines {
		sectors = append(sectors, wordForWord(l))
	}
	return sectors
}

// log: lines of one generation from Seq 0 on, of which these end a transaction.
func log(generation int, last ...bool) []api.Line {
	var lines []api.Line
	for i, is := range last {
		lines = append(lines, api.Line{Generation: generation, Seq: i, Last: is, Rec: api.Rec{Kind: 9, A: i, B: 100 + i}})
	}
	return lines
}

// saidOf: what sectors tell as the document says it: how many belong, where the last transaction ends, and only then what they are.
func saidOf(sectors [][]byte, generation int) [][]api.Rec {
	var lines []api.Line
	ends := 0
	for i, b := range sectors {
		l, is := told(b)
		if !is || l.Generation != generation || l.Seq != i {
			break
		}
		lines = append(lines, l)
		if l.Last {
			ends = len(lines)
		}
	}
	var whole [][]api.Rec
	ended := true
	for _, l := range lines[:ends] {
		if ended {
			whole = append(whole, nil)
		}
		whole[len(whole)-1] = append(whole[len(whole)-1], l.Rec)
		ended = l.Last
	}
	return whole
}

func replays(t *testing.T, sectors [][]byte, generation int, want [][]api.Rec) {
	t.Helper()
	got := line.Replay(sectors, generation)
	if !slices.EqualFunc(got, want, slices.Equal) {
		t.Errorf("Replay of %d sectors, %d: %+v, want %+v", len(sectors), generation, got, want)
	}
}

func TestTransactions(t *testing.T) {
	rec := func(n int) api.Rec { return api.Rec{Kind: 9, A: n, B: 100 + n} }
	for _, c := range []struct {
		last []bool
		want [][]api.Rec
	}{
		{nil, nil},
		{[]bool{false}, nil},
		{[]bool{false, false, false}, nil},
		{[]bool{true}, [][]api.Rec{{rec(0)}}},
		{[]bool{true, false}, [][]api.Rec{{rec(0)}}},
		{[]bool{false, true}, [][]api.Rec{{rec(0), rec(1)}}},
		{[]bool{true, true, true}, [][]api.Rec{{rec(0)}, {rec(1)}, {rec(2)}}},
		{[]bool{false, true, true, false, false, true, false, false}, [][]api.Rec{{rec(0), rec(1)}, {rec(2)}, {rec(3), rec(4), rec(5)}}},
	} {
		replays(t, sectorsOf(log(7, c.last...)...), 7, c.want)
	}
}

// A record is answered with all that it has, and nothing of it is asked: also records that no table would take.
func TestRecordsAreWhole(t *testing.T) {
	var lines []api.Line
	var want []api.Rec
	for i := range 300 {
		l := someLine(i)
		l.Generation, l.Seq, l.Last = 1, i, i == 299
		lines, want = append(lines, l), append(want, l.Rec)
	}
	replays(t, sectorsOf(lines...), 1, [][]api.Rec{want})
	replays(t, sectorsOf(lines[:299]...), 1, nil)
}

func TestOnlyThatGeneration(t *testing.T) {
	for _, generation := range []int{0, 1, 255, 256, 1<<31 - 2, 1<<31 - 1} {
		sectors := sectorsOf(log(generation, false, true)...)
		if got := line.Replay(sectors, generation); len(got) != 1 || len(got[0]) != 2 {
			t.Errorf("generation %d: %+v", generation, got)
		}
		for _, other := range []int{-1, generation - 1, generation + 1, generation + 256, generation + 1<<32, generation - 1<<32, -generation - 1, math.MaxInt, math.MinInt} {
			replays(t, sectors, other, nil)
		}
	}
	// What another generation left behind does not belong, nor does what follows.
	sectors := slices.Concat(sectorsOf(log(8, true, true)...), sectorsOf(log(7, true, true, true)...)[2:], sectorsOf(log(8, true, true, true, true)...)[3:])
	replays(t, sectors, 8, [][]api.Rec{{{Kind: 9, B: 100}}, {{Kind: 9, A: 1, B: 101}}})
	replays(t, sectors, 7, nil)
}

// The first sector that does not belong ends it, however it fails to, and also where a transaction is begun.
func TestWhatEndsIt(t *testing.T) {
	lines := log(7, true, false, true, true, false, true)
	whole := sectorsOf(lines...)
	for at, l := range lines {
		turned := bytes.Clone(whole[at])
		turned[63] ^= 1
		other, early, late, tenth := l, l, l, l
		other.Generation, early.Seq, late.Seq, tenth.Rec.Kind = 6, at+1, at-1, 10
		for what, b := range map[string][]byte{
			"nil":                nil,
			"nothing":            {},
			"bytes 0":            make([]byte, api.Sector),
			"a short sector":     whole[at][:63],
			"a long sector":      append(bytes.Clone(whole[at]), 0),
			"a turned bit":       turned,
			"another generation": wordForWord(other),
			"the next seq":       wordForWord(early),
			"the seq ahead":      wordForWord(late),
			"a kind that is not": wordForWord(tenth),
		} {
			sectors := slices.Clone(whole)
			sectors[at] = b
			want := saidOf(whole[:at], 7)
			if got := line.Replay(sectors, 7); !slices.EqualFunc(got, want, slices.Equal) {
				t.Errorf("%s at %d: %+v, want %+v", what, at, got, want)
			}
		}
	}
}

// Lines go by their Seq from 0 on: those that begin later, or leave one out, or stand in another order, are none.
func TestLinesInTheirOrder(t *testing.T) {
	whole := sectorsOf(log(7, true, true, true)...)
	one := [][]api.Rec{{{Kind: 9, B: 100}}}
	replays(t, whole[1:], 7, nil)
	replays(t, [][]byte{whole[1], whole[0], whole[2]}, 7, nil)
	replays(t, [][]byte{whole[0], whole[2], whole[1]}, 7, one)
	replays(t, [][]byte{whole[0], whole[2]}, 7, one)
	replays(t, [][]byte{whole[0], whole[0], whole[1], whole[2]}, 7, one)
	replays(t, [][]byte{nil, whole[0], whole[1]}, 7, nil)
	replays(t, nil, 7, nil)
	replays(t, [][]byte{}, 0, nil)
	replays(t, make([][]byte, 1000), 0, nil)
}

// Seq counts with all of its bytes, and there may be more sectors than an area has.
func TestALongLog(t *testing.T) {
	const n = 1<<16 + 300
	last := make([]bool, n)
	for i := range last {
		last[i] = i%1000 == 999
	}
	lines := log(3, last...)
	got := line.Replay(sectorsOf(lines...), 3)
	if len(got) != n/1000 {
		t.Fatalf("%d transactions", len(got))
	}
	for i, transaction := range got {
		if len(transaction) != 1000 || transaction[0] != lines[1000*i].Rec || transaction[999] != lines[1000*i+999].Rec {
			t.Fatalf("transaction %d has %d records", i, len(transaction))
		}
	}
	lines[256].Seq = 0
	if got := line.Replay(sectorsOf(lines...), 3); len(got) != 0 {
		t.Errorf("%d transactions", len(got))
	}
	lines[256].Seq, lines[1<<16].Seq = 256, 0
	if got := line.Replay(sectorsOf(lines...), 3); len(got) != 65 {
		t.Errorf("%d transactions", len(got))
	}
}

// All sequences of up to five sectors, of each of which it is as may be whether it belongs and whether it is the last one.
func TestAllShortLogs(t *testing.T) {
	choices := func(seq int) [][]byte {
		l := api.Line{Generation: 2, Seq: seq, Rec: api.Rec{Kind: seq, A: 10 + seq, Key: someKey}}
		end, other, early := l, l, l
		end.Last, other.Generation, other.Last, early.Seq, early.Last = true, 1, true, seq+1, true
		return append(sectorsOf(l, end, other, early), nil)
	}
	var walk func(sectors [][]byte)
	walk = func(sectors [][]byte) {
		for generation := range 4 {
			replays(t, sectors, generation, saidOf(sectors, generation))
		}
		if len(sectors) == 5 {
			return
		}
		for _, b := range choices(len(sectors)) {
			walk(append(slices.Clone(sectors), b))
		}
	}
	walk(nil)
}

// R4, R5

func TestWhatIsHandedInIsLeft(t *testing.T) {
	room := slices.Concat(bytes.Repeat([]byte{9}, 20), wordForWord(full()), bytes.Repeat([]byte{9}, 100))
	before := bytes.Clone(room)
	line.Decode(room[20:84])
	line.Decode(room[20:83])
	line.Decode(room[20:90])
	sectors := append(sectorsOf(log(7, false, true, true, false)...), room[20:84])
	list := slices.Clone(sectors)
	var deep [][]byte
	for _, b := range sectors {
		deep = append(deep, bytes.Clone(b))
	}
	line.Replay(sectors[:4], 7)
	line.Replay(sectors, 7)
	line.Replay(sectors, 6)
	if !bytes.Equal(room, before) || !reflect.DeepEqual(sectors, deep) {
		t.Error("what was handed in, or what stands around it, was changed")
	}
	for i := range sectors {
		if &sectors[i][0] != &list[i][0] {
			t.Errorf("sector %d was exchanged", i)
		}
	}
}

// fill: bytes 255 all over a list and its spare room.
func fill(b []byte) {
	b = b[:cap(b)]
	for i := range b {
		b[i] = 255
	}
}

// mark: a record all over a list and its spare room.
func mark(list []api.Rec) {
	list = list[:cap(list)]
	for i := range list {
		list[i] = api.Rec{Kind: -1, Key: "marked"}
	}
}

func TestAnswersAreNew(t *testing.T) {
	one, two := encoded(t, full()), encoded(t, full())
	fill(one)
	if !bytes.Equal(two, wordForWord(full())) {
		t.Error("sectors share their memory")
	}
	l, _ := line.Decode(two)
	fill(two)
	if l != full() {
		t.Error("a line shares its sector's memory")
	}
	check(t, full(), wordForWord(full()))
}

func TestTransactionsAreNew(t *testing.T) {
	lines := log(7, false, false, true, true, false, true, true)
	for i := range lines {
		lines[i].Rec.Key = someKey
	}
	sectors := sectorsOf(lines...)
	want := saidOf(sectors, 7)
	one, two := line.Replay(sectors, 7), line.Replay(sectors, 7)
	for _, b := range sectors {
		fill(b)
	}
	if !reflect.DeepEqual(one, want) {
		t.Errorf("records share their sectors' memory: %+v", one)
	}
	for i := range one {
		mark(one[i])
		for j := i + 1; j < len(one); j++ {
			if !slices.Equal(one[j], want[j]) {
				t.Errorf("transactions %d and %d share their memory", i, j)
			}
		}
	}
	clear(one[:cap(one)])
	if !reflect.DeepEqual(two, want) {
		t.Errorf("answers share their memory: %+v", two)
	}
}

func TestTheSameIsAnsweredEachTime(t *testing.T) {
	sectors := sectorsOf(log(7, true, false, true)...)
	want := saidOf(sectors, 7)
	for seed := range 20 {
		line.Encode(someLine(seed))
		notDecoded(t, make([]byte, api.Sector))
		replays(t, sectors, 6, nil)
		replays(t, sectors, 7, want)
		check(t, full(), wordForWord(full()))
	}
}

func FuzzLinesAgree(f *testing.F) {
	f.Add(258, 3, true, 1, 2, 3, 1<<40, 5, someKey, wordForWord(full()))
	f.Add(-1, 1<<31, false, 10, -1, 1<<40+1, math.MaxInt, math.MinInt, "short", make([]byte, 63))
	f.Add(7, 0, true, 9, 0, 1, 0, 0, "", slices.Concat(sectorsOf(log(7, false, true, true, false)...)...))
	f.Fuzz(func(t *testing.T, generation, seq int, last bool, kind, a, b, c, d int, key string, raw []byte) {
		l := api.Line{Generation: generation, Seq: seq, Last: last, Rec: api.Rec{Kind: kind, A: a, B: b, C: c, D: d, Key: key}}
		if e := fits(l); e != api.OK {
			notEncoded(t, l, e)
		} else {
			check(t, l, wordForWord(l))
		}
		decodesAsTold(t, raw)
		var sectors, right [][]byte
		for piece := range slices.Chunk(raw, api.Sector) {
			sectors = append(sectors, piece)
			if len(piece) == api.Sector {
				right = append(right, summed(piece))
				decodesAsTold(t, summed(piece))
			}
		}
		replays(t, sectors, generation, saidOf(sectors, generation))
		replays(t, right, generation, saidOf(right, generation))
	})
}
