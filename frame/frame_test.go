package frame_test

import (
	"bytes"
	"encoding/binary"
	"encoding/hex"
	"math"
	"math/rand"
	"reflect"
	"slices"
	"strings"
	"testing"

	"stowage/api"
	"stowage/frame"
)

// random: the same in each run with one seed.
func random(seed int) *rand.Rand { return rand.New(rand.NewSource(int64(seed))) }

// somehow: n bytes of any kind, the same in each run with one seed.
func somehow(seed, n int) []byte {
	b := make([]byte, n)
	random(seed).Read(b)
	return b
}

// unhex: bytes of their digits.
func unhex(t *testing.T, digits string) []byte {
	t.Helper()
	b, err := hex.DecodeString(strings.ReplaceAll(digits, " ", ""))
	if err != nil {
		t.Fatal(err)
	}
	return b
}

// someAsk: any request that can be, the same in each run with one seed.
func someAsk(seed int) api.Ask {
	r := random(seed)
	a := api.Ask{
		Kind:   r.Intn(1<<16) >> r.Intn(17),
		Flags:  r.Intn(1<<16) >> r.Intn(17),
		Handle: r.Uint64() >> r.Intn(65),
		Offset: r.Intn(1<<40+1) >> r.Intn(42),
		Length: r.Intn(1<<20+1) >> r.Intn(22),
	}
	if a.Kind == 1 {
		a.Length >>= 10
		a.Data = somehow(seed, a.Length)
	}
	return a
}

// full: a request of which nothing is 0.
func full() api.Ask {
	return api.Ask{Kind: 1, Flags: 0x203, Handle: 0x0405060708090a0b, Offset: 0x0c0d0e0f10, Length: 5, Data: []byte("\x00\xffxyz")}
}

// sameAsk: nil and empty lists are the same.
func sameAsk(a, b api.Ask) bool {
	return a.Kind == b.Kind && a.Flags == b.Flags && a.Handle == b.Handle && a.Offset == b.Offset && a.Length == b.Length && bytes.Equal(a.Data, b.Data)
}

// askBytes: a request as the document says it.
func askBytes(a api.Ask) []byte {
	b := binary.BigEndian.AppendUint32(nil, 0x25609513)
	b = binary.BigEndian.AppendUint16(b, uint16(a.Flags))
	b = binary.BigEndian.AppendUint16(b, uint16(a.Kind))
	b = binary.BigEndian.AppendUint64(b, a.Handle)
	b = binary.BigEndian.AppendUint64(b, uint64(a.Offset))
	b = binary.BigEndian.AppendUint32(b, uint32(a.Length))
	return append(b, a.Data...)
}

// askHead: the first bytes of a request, whatever its numbers are.
func askHead(kind uint16, offset uint64, length uint32) []byte {
	b := binary.BigEndian.AppendUint16([]byte("\x25\x60\x95\x13\x00\x01"), kind)
	b = binary.BigEndian.AppendUint64(b, 7)
	b = binary.BigEndian.AppendUint64(b, offset)
	return binary.BigEndian.AppendUint32(b, length)
}

// optionBytes: an option as the document says it.
func optionBytes(kind int, data []byte) []byte {
	b := binary.BigEndian.AppendUint32([]byte("IHAVEOPT"), uint32(kind))
	b = binary.BigEndian.AppendUint32(b, uint32(len(data)))
	return append(b, data...)
}

// answerBytes: an answer as the document says it.
func answerBytes(option, kind int, data []byte) []byte {
	b := binary.BigEndian.AppendUint64(nil, 0x0003E889045565A9)
	b = binary.BigEndian.AppendUint32(b, uint32(option))
	b = binary.BigEndian.AppendUint32(b, uint32(kind))
	b = binary.BigEndian.AppendUint32(b, uint32(len(data)))
	return append(b, data...)
}

// replyBytes: a reply as the document says it.
func replyBytes(code int, handle uint64, data []byte) []byte {
	b := binary.BigEndian.AppendUint32(nil, 0x67446698)
	b = binary.BigEndian.AppendUint32(b, uint32(code))
	b = binary.BigEndian.AppendUint64(b, handle)
	return append(b, data...)
}

// another: is one of the first bytes that are there another one than the mark's?
func another(b []byte, mark string) bool {
	for i := range len(mark) {
		if i < len(b) && b[i] != mark[i] {
			return true
		}
	}
	return false
}

// askTold: what Ask has to answer, word for word.
func askTold(b []byte) (api.Ask, int, api.Errno) {
	if another(b, "\x25\x60\x95\x13") {
		return api.Ask{}, 0, api.ErrForm
	}
	if len(b) < 28 {
		return api.Ask{}, 0, api.ErrShort
	}
	offset, length := binary.BigEndian.Uint64(b[16:]), binary.BigEndian.Uint32(b[24:])
	if offset > 1099511627776 || length > 1048576 {
		return api.Ask{}, 0, api.ErrRange
	}
	a := api.Ask{
		Flags:  int(b[4])<<8 | int(b[5]),
		Kind:   int(b[6])<<8 | int(b[7]),
		Handle: binary.BigEndian.Uint64(b[8:]),
		Offset: int(offset),
		Length: int(length),
	}
	if a.Kind != 1 {
		return a, 28, api.OK
	}
	if len(b) < 28+a.Length {
		return api.Ask{}, 0, api.ErrShort
	}
	a.Data = b[28 : 28+a.Length]
	return a, 28 + a.Length, api.OK
}

// optionTold: what Option has to answer, word for word.
func optionTold(b []byte) (int, []byte, int, api.Errno) {
	if another(b, "IHAVEOPT") {
		return 0, nil, 0, api.ErrForm
	}
	if len(b) < 16 {
		return 0, nil, 0, api.ErrShort
	}
	size := int(binary.BigEndian.Uint32(b[12:]))
	if size > 4096 {
		return 0, nil, 0, api.ErrRange
	}
	if len(b) < 16+size {
		return 0, nil, 0, api.ErrShort
	}
	return int(binary.BigEndian.Uint32(b[8:])), b[16 : 16+size], 16 + size, api.OK
}

// putAskFault: what PutAsk has to say of a request.
func putAskFault(a api.Ask) api.Errno {
	for _, c := range []struct{ n, most int }{{a.Kind, 65535}, {a.Flags, 65535}, {a.Offset, 1099511627776}, {a.Length, 1048576}} {
		if c.n < 0 || c.n > c.most {
			return api.ErrRange
		}
	}
	if a.Kind == 1 && len(a.Data) != a.Length || a.Kind != 1 && len(a.Data) != 0 {
		return api.ErrArg
	}
	return api.OK
}

// readsAsTold: Ask answers what the document says of these bytes.
func readsAsTold(t *testing.T, b []byte) {
	t.Helper()
	want, wantN, wantE := askTold(b)
	got, n, e := frame.Ask(b)
	if !sameAsk(got, want) || n != wantN || e != wantE {
		t.Errorf("Ask(%s) = %s, %d, %d, want %s, %d, %d", brief(b), told(got), n, e, told(want), wantN, wantE)
	}
}

// optionAsTold: Option answers what the document says of these bytes.
func optionAsTold(t *testing.T, b []byte) {
	t.Helper()
	wantKind, wantData, wantN, wantE := optionTold(b)
	kind, data, n, e := frame.Option(b)
	if kind != wantKind || !bytes.Equal(data, wantData) || n != wantN || e != wantE {
		t.Errorf("Option(%s) = %d, %s, %d, %d, want %d, %s, %d, %d", brief(b), kind, brief(data), n, e, wantKind, brief(wantData), wantN, wantE)
	}
}

// notRead: Ask answers this error, and nothing beside it.
func notRead(t *testing.T, b []byte, want api.Errno) {
	t.Helper()
	if a, n, e := frame.Ask(b); !reflect.DeepEqual(a, api.Ask{}) || n != 0 || e != want {
		t.Errorf("Ask(%s) = %s, %d, %d, want %d", brief(b), told(a), n, e, want)
	}
}

// noOption: Option answers this error, and nothing beside it.
func noOption(t *testing.T, b []byte, want api.Errno) {
	t.Helper()
	if kind, data, n, e := frame.Option(b); kind != 0 || data != nil || n != 0 || e != want {
		t.Errorf("Option(%s) = %d, %s, %d, %d, want %d", brief(b), kind, brief(data), n, e, want)
	}
}

// checkAsk: a request is written as wanted, and read again, whatever stands behind it.
func checkAsk(t *testing.T, a api.Ask, want []byte) {
	t.Helper()
	if b, e := frame.PutAsk(a); !bytes.Equal(b, want) || e != api.OK {
		t.Errorf("PutAsk(%s) = %s, %d, want %s", told(a), brief(b), e, brief(want))
	}
	for _, behind := range [][]byte{nil, {0}, {0x25, 0x60}, want, somehow(1, 40)} {
		got, n, e := frame.Ask(slices.Concat(want, behind))
		if !sameAsk(got, a) || n != len(want) || e != api.OK {
			t.Errorf("Ask(%s and %s) = %s, %d, %d, want %s", brief(want), brief(behind), told(got), n, e, told(a))
		}
	}
}

// checkOption: an option is written as wanted, and read again, whatever stands behind it.
func checkOption(t *testing.T, kind int, data, want []byte) {
	t.Helper()
	if b, e := frame.PutOption(kind, data); !bytes.Equal(b, want) || e != api.OK {
		t.Errorf("PutOption(%d, %s) = %s, %d, want %s", kind, brief(data), brief(b), e, brief(want))
	}
	for _, behind := range [][]byte{nil, {0}, []byte("IHAVE"), want, somehow(1, 40)} {
		gotKind, gotData, n, e := frame.Option(slices.Concat(want, behind))
		if gotKind != kind || !bytes.Equal(gotData, data) || n != len(want) || e != api.OK {
			t.Errorf("Option(%s and %s) = %d, %s, %d, %d", brief(want), brief(behind), gotKind, brief(gotData), n, e)
		}
	}
}

// is: these bytes and OK were answered.
func is(t *testing.T, what string, b []byte, e api.Errno, want []byte) {
	t.Helper()
	if !bytes.Equal(b, want) || e != api.OK {
		t.Errorf("%s = %s, %d, want %s", what, brief(b), e, brief(want))
	}
}

// fails: this error was answered, and nothing beside it.
func fails(t *testing.T, what string, b []byte, e, want api.Errno) {
	t.Helper()
	if b != nil || e != want {
		t.Errorf("%s = %s, %d, want %d", what, brief(b), e, want)
	}
}

// brief: the beginning of bytes, as digits.
func brief(b []byte) string {
	if len(b) <= 48 {
		return "[" + hex.EncodeToString(b) + "]"
	}
	return "[" + hex.EncodeToString(b[:48]) + "..]"
}

// told: a request, as text.
func told(a api.Ask) string {
	return brief(askBytes(a))
}

// farNumbers: numbers that are not from 0 to most.
func farNumbers(most int) []int {
	return []int{-1, -2, -most, -most - 1, most + 1, most + 2, 2*most + 1, 1<<40 + 1, 1 << 48, 1 << 56, 1<<62 + 1, -1 << 16, -1 << 32, -1 << 56, math.MaxInt, math.MaxInt - 1, math.MinInt, math.MinInt + 1}
}

// nearNumbers: numbers from 0 to most.
func nearNumbers(most int) []int {
	return []int{0, 1, 2, 255 % (most + 1), 256, most / 2, most/2 + 1, most - 1, most}
}

// P21.1

func TestKnownRequests(t *testing.T) {
	for _, c := range []struct {
		a    api.Ask
		want string
	}{
		{api.Ask{}, "25609513 0000 0000 0000000000000000 0000000000000000 00000000"},
		{api.Ask{Kind: api.AskRead, Handle: 1, Offset: 64, Length: 128}, "25609513 0000 0000 0000000000000001 0000000000000040 00000080"},
		{api.Ask{Kind: api.AskWrite, Flags: api.FlagSure, Handle: 2, Offset: 0, Length: 2, Data: []byte("hi")}, "25609513 0001 0001 0000000000000002 0000000000000000 00000002 6869"},
		{api.Ask{Kind: api.AskWrite, Handle: 3, Offset: 9}, "25609513 0000 0001 0000000000000003 0000000000000009 00000000"},
		{api.Ask{Kind: api.AskLeave}, "25609513 0000 0002 0000000000000000 0000000000000000 00000000"},
		{api.Ask{Kind: api.AskFlush, Handle: math.MaxUint64}, "25609513 0000 0003 ffffffffffffffff 0000000000000000 00000000"},
		{full(), "25609513 0203 0001 0405060708090a0b 0000000c0d0e0f10 00000005 00ff78797a"},
		{api.Ask{Kind: 65535, Flags: 65534, Handle: 1 << 63, Offset: 1 << 40, Length: 1 << 20}, "25609513 fffe ffff 8000000000000000 0000010000000000 00100000"},
	} {
		checkAsk(t, c.a, unhex(t, c.want))
	}
}

func TestRequestsAreWrittenAsItIsSaid(t *testing.T) {
	for seed := range 3000 {
		a := someAsk(seed)
		checkAsk(t, a, askBytes(a))
	}
}

// numbersOf: a request's numbers, to be changed one by one, and the greatest that each may be.
func numbersOf(a *api.Ask) ([]*int, []int) {
	return []*int{&a.Kind, &a.Flags, &a.Offset, &a.Length}, []int{65535, 65535, api.MaxTime, api.MaxStream}
}

// turned: a request with one other number, and with data of another kind or length, as they need it.
func turned(a api.Ask, which, n int) api.Ask {
	numbers, _ := numbersOf(&a)
	*numbers[which] = n
	a.Data = nil
	if a.Kind == 1 && a.Length >= 0 && a.Length <= api.MaxStream {
		a.Data = make([]byte, a.Length)
	}
	return a
}

func TestNumbersOfRequestsAtTheirEnds(t *testing.T) {
	for _, a := range []api.Ask{{}, full(), {Kind: 3, Flags: 1, Handle: 5}} {
		_, most := numbersOf(&a)
		for i := range most {
			for _, n := range nearNumbers(most[i]) {
				checkAsk(t, turned(a, i, n), askBytes(turned(a, i, n)))
			}
			for _, n := range farNumbers(most[i]) {
				b, e := frame.PutAsk(turned(a, i, n))
				fails(t, told(turned(a, i, n)), b, e, api.ErrRange)
			}
		}
	}
	// No number counts modulo its bytes: beyond them it is no small one again.
	for i, bits := range []int{16, 16, 64 - 2, 32} {
		b, e := frame.PutAsk(turned(full(), i, 1<<bits))
		fails(t, "a number beyond its bytes", b, e, api.ErrRange)
	}
}

// Any Handle is right, and comes back as it is.
func TestHandles(t *testing.T) {
	for bit := range 64 {
		for _, handle := range []uint64{1 << bit, 1<<bit - 1, ^uint64(0) << bit, ^(1 << bit)} {
			a := full()
			a.Handle = handle
			checkAsk(t, a, askBytes(a))
			b, e := frame.Reply(9, handle, []byte("x"))
			is(t, "Reply", b, e, replyBytes(9, handle, []byte("x")))
		}
	}
}

func TestDataOfPutRequests(t *testing.T) {
	for length := range 20 {
		for size := range 20 {
			for kind := range 6 {
				a := api.Ask{Kind: kind, Length: length, Data: somehow(size, size)}
				b, e := frame.PutAsk(a)
				if kind == 1 && size == length || kind != 1 && size == 0 {
					is(t, told(a), b, e, askBytes(a))
				} else {
					fails(t, told(a), b, e, api.ErrArg)
				}
			}
		}
	}
	for _, kind := range []int{256, 257, 65535} {
		b, e := frame.PutAsk(api.Ask{Kind: kind, Length: 1, Data: []byte("x")})
		fails(t, "a kind like AskWrite's", b, e, api.ErrArg)
	}
}

func TestGreatRequests(t *testing.T) {
	for _, n := range []int{255, 256, 65535, 65536, api.MaxStream - 1, api.MaxStream} {
		a := api.Ask{Kind: api.AskWrite, Handle: 1, Length: n, Data: somehow(n, n)}
		checkAsk(t, a, askBytes(a))
		for _, size := range []int{0, 1, n - 1, n + 1, 2 * n} {
			a.Data = make([]byte, size)
			b, e := frame.PutAsk(a)
			fails(t, "too much or too little data", b, e, api.ErrArg)
		}
		b := askBytes(api.Ask{Kind: api.AskWrite, Handle: 1, Length: n, Data: somehow(n, n)})
		for _, size := range []int{28, 29, 27 + n} {
			notRead(t, b[:size], api.ErrShort)
		}
	}
	a := api.Ask{Kind: api.AskWrite, Length: api.MaxStream + 1, Data: make([]byte, api.MaxStream+1)}
	b, e := frame.PutAsk(a)
	fails(t, "above MaxStream", b, e, api.ErrRange)
	notRead(t, askBytes(a), api.ErrRange)
}

// R2: ErrRange is named ahead of ErrArg.
func TestWhichErrorOfPutRequestsGoesAhead(t *testing.T) {
	for _, kind := range []int{0, 1, 2, 65535} {
		_, most := numbersOf(&api.Ask{})
		for i := range most {
			for _, n := range farNumbers(most[i]) {
				a := api.Ask{Kind: kind, Length: 3, Data: []byte("four")}
				numbers, _ := numbersOf(&a)
				*numbers[i] = n
				b, e := frame.PutAsk(a)
				fails(t, told(a), b, e, api.ErrRange)
			}
		}
	}
}

func TestPiecesOfARequest(t *testing.T) {
	for _, a := range []api.Ask{{}, full(), {Kind: 1}, {Kind: 2, Length: 9}, {Kind: 0x0100, Length: 3}, {Kind: 0x0101, Length: 3}} {
		b := askBytes(a)
		for n := range b {
			notRead(t, b[:n], api.ErrShort)
			notRead(t, b[:n:n], api.ErrShort)
		}
		checkAsk(t, a, b)
	}
	notRead(t, nil, api.ErrShort)
	notRead(t, []byte{}, api.ErrShort)
}

// A mark that can't become one any more is told at once, whatever else is wrong.
func TestMarksOfRequests(t *testing.T) {
	whole := [][]byte{askBytes(full()), askHead(1, 1<<40+1, 1<<20+1), askHead(1, 0, 1<<20)}
	for _, b := range whole {
		for at := range 4 {
			for x := range 256 {
				if byte(x) == b[at] {
					continue
				}
				other := bytes.Clone(b)
				other[at] = byte(x)
				for n := range len(other) + 1 {
					if n > at {
						notRead(t, other[:n], api.ErrForm)
					} else {
						notRead(t, other[:n], api.ErrShort)
					}
				}
			}
		}
	}
	for _, mark := range []string{"67446698", "13956025", "49484156", "00", "0025609513", "256095", "60951325"} {
		b := append(unhex(t, mark), make([]byte, 30)...)
		notRead(t, b, api.ErrForm)
	}
	notRead(t, make([]byte, 1<<20), api.ErrForm)
	notRead(t, optionBytes(1, nil), api.ErrForm)
	notRead(t, replyBytes(0, 0, make([]byte, 20)), api.ErrForm)
}

func TestNumbersThatARequestMayNotHave(t *testing.T) {
	const most, mostLength = uint64(api.MaxTime), uint32(api.MaxStream)
	for _, kind := range []uint16{0, 1, 2, 3, 4, 0xffff} {
		for _, offset := range []uint64{most + 1, most + 255, 1 << 41, 1 << 48, 1<<63 - 1, 1 << 63, 1<<63 | 1, 1<<64 - 1, 1<<64 - 64} {
			notRead(t, askHead(kind, offset, 0), api.ErrRange)
			notRead(t, append(askHead(kind, offset, 4), "data"...), api.ErrRange)
			notRead(t, askHead(kind, offset, 64), api.ErrRange)
			notRead(t, askHead(kind, offset, mostLength+1), api.ErrRange)
		}
		for _, length := range []uint32{mostLength + 1, mostLength + 255, 1 << 21, 1 << 24, 1<<31 - 1, 1 << 31, 1<<32 - 1} {
			notRead(t, askHead(kind, 0, length), api.ErrRange)
			notRead(t, askHead(kind, most, length), api.ErrRange)
			// Fewer than 28 bytes tell of no number that is wrong.
			notRead(t, askHead(kind, 1<<64-1, length)[:27], api.ErrShort)
		}
	}
	for _, offset := range []uint64{0, 1, 255, 256, 1 << 32, most - 1, most} {
		a := api.Ask{Kind: 3, Flags: 1, Handle: 7, Offset: int(offset), Length: 1 << 20}
		checkAsk(t, a, askHead(3, offset, mostLength))
		notRead(t, askHead(1, offset, mostLength), api.ErrShort)
	}
}

// All values of each byte, at each of a request's places.
func TestEachByteOfARequest(t *testing.T) {
	for _, a := range []api.Ask{{}, full(), {Kind: 1, Length: 2, Data: []byte("hi")}, {Kind: 3, Offset: 1 << 40, Length: 1 << 20}} {
		b := append(askBytes(a), somehow(3, 300)...)
		for i := range 30 {
			for x := range 256 {
				other := bytes.Clone(b)
				other[i] = byte(x)
				readsAsTold(t, other)
				readsAsTold(t, other[:31])
			}
		}
	}
}

// Of AskWrite alone bytes behind are data; of all other kinds the next request begins there.
func TestOnlyWritesHaveData(t *testing.T) {
	for kind := range 1 << 16 {
		b := append(askHead(uint16(kind), 64, 4), "dataand more"...)
		a, n, e := frame.Ask(b)
		want, size := api.Ask{Kind: kind, Flags: 1, Handle: 7, Offset: 64, Length: 4}, 28
		if kind == 1 {
			want.Data, size = []byte("data"), 32
		}
		if !sameAsk(a, want) || n != size || e != api.OK {
			t.Errorf("kind %d: %s, %d, %d", kind, told(a), n, e)
		}
	}
}

func TestRequestsOneBehindTheOther(t *testing.T) {
	var list []api.Ask
	var all []byte
	for seed := range 200 {
		list = append(list, someAsk(seed))
		all = append(all, askBytes(someAsk(seed))...)
	}
	for i, want := range list {
		a, n, e := frame.Ask(all)
		if !sameAsk(a, want) || e != api.OK {
			t.Fatalf("request %d: %s, %d, %d", i, told(a), n, e)
		}
		all = all[n:]
	}
	if len(all) != 0 {
		t.Errorf("%d bytes are left", len(all))
	}
}

// P21.2

func TestKnownReplies(t *testing.T) {
	for _, c := range []struct {
		code   int
		handle uint64
		data   string
		want   string
	}{
		{0, 0, "", "67446698 00000000 0000000000000000"},
		{api.ReplyOK, 0x0102030405060708, "ab", "67446698 00000000 0102030405060708 6162"},
		{api.ReplyInval, 5, "", "67446698 00000016 0000000000000005"},
		{1<<31 - 1, math.MaxUint64, "\x00", "67446698 7fffffff ffffffffffffffff 00"},
		{0x01020304, 1 << 63, "xyz", "67446698 01020304 8000000000000000 78797a"},
	} {
		b, e := frame.Reply(c.code, c.handle, []byte(c.data))
		is(t, "Reply", b, e, unhex(t, c.want))
	}
	b, e := frame.Reply(5, 6, nil)
	is(t, "Reply without data", b, e, replyBytes(5, 6, nil))
}

func TestRepliesAreWrittenAsItIsSaid(t *testing.T) {
	for seed := range 3000 {
		r := random(seed)
		code, handle, data := r.Intn(1<<31)>>r.Intn(32), r.Uint64()>>r.Intn(65), somehow(seed, r.Intn(200))
		b, e := frame.Reply(code, handle, data)
		is(t, "Reply", b, e, replyBytes(code, handle, data))
	}
}

func TestCodesAtTheirEnds(t *testing.T) {
	for _, code := range nearNumbers(1<<31 - 1) {
		b, e := frame.Reply(code, 1, []byte("x"))
		is(t, "Reply", b, e, replyBytes(code, 1, []byte("x")))
	}
	for _, code := range farNumbers(1<<31 - 1) {
		for _, size := range []int{0, 1, api.MaxStream, api.MaxStream + 1} {
			// R2: ErrRange is named ahead of ErrArg.
			b, e := frame.Reply(code, 1, make([]byte, size))
			fails(t, "Reply of a far code", b, e, api.ErrRange)
		}
	}
	b, e := frame.Reply(1<<32, 1, nil)
	fails(t, "Reply of 2^32", b, e, api.ErrRange)
}

func TestDataOfReplies(t *testing.T) {
	for _, n := range []int{0, 1, 63, 64, 65, 4096, 4097, 65536, api.MaxStream - 1, api.MaxStream} {
		data := somehow(n, n)
		b, e := frame.Reply(0, 2, data)
		is(t, "Reply", b, e, replyBytes(0, 2, data))
	}
	for _, n := range []int{api.MaxStream + 1, api.MaxStream + 2, 2 * api.MaxStream} {
		b, e := frame.Reply(0, 2, make([]byte, n))
		fails(t, "Reply of too much data", b, e, api.ErrArg)
	}
}

// P21.3

func TestKnownOptions(t *testing.T) {
	for _, c := range []struct {
		kind int
		data string
		want string
	}{
		{0, "", "49484156454f5054 00000000 00000000"},
		{1, "v1", "49484156454f5054 00000001 00000002 7631"},
		{7, "\x00\x00\x00\x02v0\x00\x00", "49484156454f5054 00000007 00000008 0000000276300000"},
		{1<<32 - 1, "\xff", "49484156454f5054 ffffffff 00000001 ff"},
		{0x01020304, "abc", "49484156454f5054 01020304 00000003 616263"},
	} {
		checkOption(t, c.kind, []byte(c.data), unhex(t, c.want))
	}
	checkOption(t, 2, nil, optionBytes(2, nil))
}

func TestKnownAnswers(t *testing.T) {
	for _, c := range []struct {
		option, kind int
		data         string
		want         string
	}{
		{0, 0, "", "0003e889045565a9 00000000 00000000 00000000"},
		{3, 1, "", "0003e889045565a9 00000003 00000001 00000000"},
		{3, 2, "\x00\x00\x00\x02v0", "0003e889045565a9 00000003 00000002 00000006 000000027630"},
		{7, 1<<31 + 6, "", "0003e889045565a9 00000007 80000006 00000000"},
		{0x01020304, 0x05060708, "x", "0003e889045565a9 01020304 05060708 00000001 78"},
		{1<<32 - 1, 1<<32 - 2, "yz", "0003e889045565a9 ffffffff fffffffe 00000002 797a"},
	} {
		b, e := frame.Answer(c.option, c.kind, []byte(c.data))
		is(t, "Answer", b, e, unhex(t, c.want))
	}
	b, e := frame.Answer(1, 2, nil)
	is(t, "Answer without data", b, e, answerBytes(1, 2, nil))
}

func TestOptionsAndAnswersAreWrittenAsItIsSaid(t *testing.T) {
	for seed := range 2000 {
		r := random(seed)
		option, kind, data := r.Intn(1<<32)>>r.Intn(33), r.Intn(1<<32)>>r.Intn(33), somehow(seed, r.Intn(4097)>>r.Intn(13))
		checkOption(t, kind, data, optionBytes(kind, data))
		b, e := frame.Answer(option, kind, data)
		is(t, "Answer", b, e, answerBytes(option, kind, data))
	}
}

func TestKindsAtTheirEnds(t *testing.T) {
	for _, kind := range append(nearNumbers(1<<32-1), 1<<31-1, 1<<31, 1<<31+1) {
		checkOption(t, kind, []byte("x"), optionBytes(kind, []byte("x")))
		b, e := frame.Answer(kind, 5, []byte("x"))
		is(t, "Answer", b, e, answerBytes(kind, 5, []byte("x")))
		b, e = frame.Answer(5, kind, []byte("x"))
		is(t, "Answer", b, e, answerBytes(5, kind, []byte("x")))
	}
	for _, kind := range append(farNumbers(1<<32-1), 1<<32+5, 1<<33) {
		for _, size := range []int{0, 1, 4096, 4097} {
			// R2: ErrRange is named ahead of ErrArg.
			b, e := frame.PutOption(kind, make([]byte, size))
			fails(t, "PutOption of a far kind", b, e, api.ErrRange)
			for _, other := range []int{0, 5, kind} {
				b, e = frame.Answer(kind, other, make([]byte, size))
				fails(t, "Answer to a far option", b, e, api.ErrRange)
				b, e = frame.Answer(other, kind, make([]byte, size))
				fails(t, "Answer of a far kind", b, e, api.ErrRange)
			}
		}
	}
}

func TestDataOfOptionsAndAnswers(t *testing.T) {
	for _, n := range []int{0, 1, 15, 16, 255, 256, 257, 4095, 4096} {
		data := somehow(n, n)
		checkOption(t, 6, data, optionBytes(6, data))
		b, e := frame.Answer(8, 9, data)
		is(t, "Answer", b, e, answerBytes(8, 9, data))
	}
	for _, n := range []int{4097, 4098, 65536, 1 << 20} {
		b, e := frame.PutOption(6, make([]byte, n))
		fails(t, "PutOption of too much data", b, e, api.ErrArg)
		b, e = frame.Answer(8, 9, make([]byte, n))
		fails(t, "Answer of too much data", b, e, api.ErrArg)
		noOption(t, optionBytes(6, make([]byte, n)), api.ErrRange)
	}
}

func TestPiecesOfAnOption(t *testing.T) {
	for _, data := range [][]byte{nil, []byte("v"), somehow(4, 300), somehow(5, 4096)} {
		b := optionBytes(0x01020304, data)
		for n := range b {
			noOption(t, b[:n], api.ErrShort)
			noOption(t, b[:n:n], api.ErrShort)
		}
		checkOption(t, 0x01020304, data, b)
	}
	noOption(t, nil, api.ErrShort)
	noOption(t, []byte{}, api.ErrShort)
}

// A mark that can't become one any more is told at once, whatever else is wrong.
func TestMarksOfOptions(t *testing.T) {
	for _, b := range [][]byte{optionBytes(1, []byte("v1")), append([]byte("IHAVEOPT"), 0, 0, 0, 1, 255, 255, 255, 255), append([]byte("IHAVEOPT"), 0, 0, 0, 1, 0, 0, 0, 9)} {
		for at := range 8 {
			for x := range 256 {
				if byte(x) == b[at] {
					continue
				}
				other := bytes.Clone(b)
				other[at] = byte(x)
				for n := range len(other) + 1 {
					if n > at {
						noOption(t, other[:n], api.ErrForm)
					} else {
						noOption(t, other[:n], api.ErrShort)
					}
				}
			}
		}
	}
	for _, mark := range []string{"ihaveopt", "NBDMAGIC", "IHAVEOPS", "HAVEOPTI", " IHAVEOPT", "IHAVEOP\x00", "\x00"} {
		noOption(t, append([]byte(mark), make([]byte, 30)...), api.ErrForm)
		noOption(t, []byte(mark), api.ErrForm)
	}
	noOption(t, make([]byte, 1<<20), api.ErrForm)
	noOption(t, askBytes(full()), api.ErrForm)
	noOption(t, answerBytes(1, 1, nil), api.ErrForm)
}

func TestSizesThatAnOptionMayNotHave(t *testing.T) {
	for _, size := range []uint32{4097, 4098, 1 << 13, 1 << 16, 1 << 20, 1<<31 - 1, 1 << 31, 1<<32 - 4096, 1<<32 - 16, 1<<32 - 1} {
		b := binary.BigEndian.AppendUint32([]byte("IHAVEOPT\xff\xff\xff\xff"), size)
		noOption(t, b, api.ErrRange)
		noOption(t, append(bytes.Clone(b), make([]byte, 5000)...), api.ErrRange)
		// Fewer than 16 bytes tell of no size that is wrong.
		noOption(t, b[:15], api.ErrShort)
	}
	b := append([]byte("IHAVEOPT\x00\x00\x00\x01\x00\x00\x10\x00"), make([]byte, 4095)...)
	noOption(t, b, api.ErrShort)
	checkOption(t, 1, make([]byte, 4096), append(b, 0))
}

// All values of each byte, at each of an option's places.
func TestEachByteOfAnOption(t *testing.T) {
	for _, data := range [][]byte{nil, []byte("v1"), somehow(6, 4096)} {
		b := append(optionBytes(3, data), somehow(7, 300)...)
		for i := range 18 {
			for x := range 256 {
				other := bytes.Clone(b)
				other[i] = byte(x)
				optionAsTold(t, other)
				optionAsTold(t, other[:20])
			}
		}
	}
}

func TestOptionsOneBehindTheOther(t *testing.T) {
	var all []byte
	for seed := range 200 {
		all = append(all, optionBytes(seed, somehow(seed, seed*17%100))...)
	}
	for seed := range 200 {
		kind, data, n, e := frame.Option(all)
		if kind != seed || !bytes.Equal(data, somehow(seed, seed*17%100)) || e != api.OK {
			t.Fatalf("option %d: %d, %s, %d, %d", seed, kind, brief(data), n, e)
		}
		all = all[n:]
	}
	if len(all) != 0 {
		t.Errorf("%d bytes are left", len(all))
	}
}

// R4, R5

// fill: bytes 238 all over a list and its spare room.
func fill(b []byte) {
	b = b[:cap(b)]
	for i := range b {
		b[i] = 238
	}
}

// answers: what each call makes of data of 7 bytes, and of these as bytes that are read, each a list that was answered.
func answers(t *testing.T, data, ask, option []byte) [][]byte {
	t.Helper()
	put, e := frame.PutAsk(api.Ask{Kind: 1, Length: 7, Data: data})
	is(t, "PutAsk", put, e, askBytes(api.Ask{Kind: 1, Length: 7, Data: data}))
	reply, e := frame.Reply(1, 2, data)
	is(t, "Reply", reply, e, replyBytes(1, 2, data))
	putOption, e := frame.PutOption(3, data)
	is(t, "PutOption", putOption, e, optionBytes(3, data))
	answer, e := frame.Answer(4, 5, data)
	is(t, "Answer", answer, e, answerBytes(4, 5, data))
	a, _, e := frame.Ask(ask)
	is(t, "Ask", a.Data, e, []byte("written"))
	_, told, _, e := frame.Option(option)
	is(t, "Option", told, e, []byte("option"))
	return [][]byte{put, reply, putOption, answer, a.Data, told}
}

func TestAnswersAreNew(t *testing.T) {
	data := append(make([]byte, 0, 64), "handing"...)
	ask := append(make([]byte, 0, 64), askBytes(api.Ask{Kind: 1, Length: 7, Data: []byte("written")})...)
	option := append(make([]byte, 0, 64), optionBytes(9, []byte("option"))...)
	one := answers(t, data, ask, option)
	kept := make([][]byte, len(one))
	for i := range one {
		kept[i] = bytes.Clone(one[i])
	}
	two := answers(t, data, ask, option)
	for i := range one {
		fill(one[i])
		for j := i + 1; j < len(one); j++ {
			if !bytes.Equal(one[j], kept[j]) {
				t.Errorf("answers %d and %d share their memory", i, j)
			}
		}
		if !bytes.Equal(two[i], kept[i]) {
			t.Errorf("two answers %d share their memory", i)
		}
	}
	// What was filled was nothing that had been handed in.
	answers(t, data, ask, option)
	fill(data)
	fill(ask)
	fill(option)
	for i := range two {
		if !bytes.Equal(two[i], kept[i]) {
			t.Errorf("answer %d shares the memory of what was handed in", i)
		}
	}
}

// Also an empty answer shares no spare room with what was handed in.
func TestEmptyDataIsNew(t *testing.T) {
	for _, b := range [][]byte{askBytes(api.Ask{Kind: 1}), askBytes(api.Ask{Kind: 3}), optionBytes(2, nil)} {
		room := append(bytes.Clone(b), somehow(1, 100)...)
		before := bytes.Clone(room)
		a, _, _ := frame.Ask(room)
		fill(a.Data)
		_, data, _, _ := frame.Option(room)
		fill(data)
		if !bytes.Equal(room, before) {
			t.Errorf("an answer shares its memory with %s", brief(b))
		}
	}
}

func TestWhatIsHandedInIsLeft(t *testing.T) {
	for _, middle := range [][]byte{askBytes(full()), optionBytes(5, []byte("data")), []byte("anything"), askHead(1, 1<<63, 9)} {
		room := slices.Concat(bytes.Repeat([]byte{9}, 50), middle, bytes.Repeat([]byte{9}, 50))
		before := bytes.Clone(room)
		for n := range len(middle) + 10 {
			b := room[50 : 50+n]
			frame.Ask(b)
			frame.Option(b)
			frame.Reply(1, 2, b)
			frame.PutOption(3, b)
			frame.Answer(4, 5, b)
			frame.PutAsk(api.Ask{Kind: 1, Length: n, Data: b})
			frame.PutAsk(api.Ask{Kind: 0, Length: n, Data: b})
		}
		if !bytes.Equal(room, before) {
			t.Errorf("what was handed in, or what stands around it, was changed: %s", brief(middle))
		}
	}
}

func TestTheSameIsAnsweredEachTime(t *testing.T) {
	for seed := range 50 {
		frame.PutAsk(someAsk(seed))
		frame.PutAsk(api.Ask{Kind: -1})
		frame.Reply(-1, 0, nil)
		notRead(t, []byte("x"), api.ErrForm)
		noOption(t, []byte("x"), api.ErrForm)
		notRead(t, askBytes(full())[:30], api.ErrShort)
		noOption(t, optionBytes(1, []byte("v1"))[:17], api.ErrShort)
		checkAsk(t, full(), askBytes(full()))
		checkOption(t, 1, []byte("v1"), optionBytes(1, []byte("v1")))
	}
}

func FuzzFramesAgree(f *testing.F) {
	f.Add(1, 0x203, uint64(7), 64, 5, 22, 3, []byte("\x00\xffxyz"), askBytes(full()))
	f.Add(0, 65536, uint64(1)<<63, -1, 1<<20+1, -1, 1<<32, []byte(nil), optionBytes(7, []byte("\x00\x00\x00\x02v0\x00\x00")))
	f.Add(65535, 1, uint64(0), 1<<40, 0, 1<<31, math.MinInt, make([]byte, 4097), askHead(1, 1<<64-1, 1<<32-1))
	f.Fuzz(func(t *testing.T, kind, flags int, handle uint64, offset, length, code, option int, data, raw []byte) {
		a := api.Ask{Kind: kind, Flags: flags, Handle: handle, Offset: offset, Length: length, Data: data}
		for _, a := range []api.Ask{a, {Kind: kind & 0xffff, Flags: flags & 0xffff, Handle: handle, Offset: offset & (1<<40 - 1), Length: length & (1<<20 - 1)}, {Kind: 1, Handle: handle, Length: len(data), Data: data}} {
			b, e := frame.PutAsk(a)
			if fault := putAskFault(a); fault != api.OK {
				fails(t, "PutAsk", b, e, fault)
			} else {
				checkAsk(t, a, askBytes(a))
			}
		}
		within := func(n, most int) bool { return 0 <= n && n <= most }
		writes := func(what string, b []byte, e api.Errno, right, small bool, want []byte) {
			if !right {
				fails(t, what, b, e, api.ErrRange)
			} else if !small {
				fails(t, what, b, e, api.ErrArg)
			} else {
				is(t, what, b, e, want)
			}
		}
		b, e := frame.Reply(code, handle, data)
		writes("Reply", b, e, within(code, 1<<31-1), len(data) <= 1<<20, replyBytes(code, handle, data))
		b, e = frame.PutOption(option, data)
		writes("PutOption", b, e, within(option, 1<<32-1), len(data) <= 4096, optionBytes(option, data))
		b, e = frame.Answer(option, code, data)
		writes("Answer", b, e, within(option, 1<<32-1) && within(code, 1<<32-1), len(data) <= 4096, answerBytes(option, code, data))
		for _, mark := range []string{"", "\x25\x60\x95\x13", "IHAVEOPT"} {
			readsAsTold(t, append([]byte(mark), raw...))
			optionAsTold(t, append([]byte(mark), raw...))
		}
	})
}
