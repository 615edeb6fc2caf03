package link_test

import (
	"bytes"
	"encoding/binary"
	"hash/crc32"
	"math/rand"
	"slices"
	"testing"

	"tidemill/api"
	"tidemill/link"
)

const most = 200_000 // bytes of a payload

// asLength: a length as bytes, by another way than the program's.
func asLength(n int) []byte {
	if n < 128 {
		return []byte{byte(n)}
	}
	l := asLength(n / 128)
	l[len(l)-1] += 128
	return append(l, byte(n%128))
}

// summed: what stands behind a sum, with the sum ahead of it, by another way than the program's.
func summed(behind []byte) []byte {
	return append(binary.BigEndian.AppendUint32(nil, crc32.ChecksumIEEE(behind)), behind...)
}

// asFrame: a payload's frame, by another way than the program's.
func asFrame(payload []byte) []byte {
	return summed(append(asLength(len(payload)), payload...))
}

// asChain: the frames of payloads, one behind the other, by another way than the program's.
func asChain(payloads ...[]byte) []byte {
	var b []byte
	for _, p := range payloads {
		b = append(b, asFrame(p)...)
	}
	return b
}

// seen: what is to be seen in bytes.
type seen struct {
	payloads [][]byte
	places   []int
	e        api.Errno // of the frame at which they break; OK, if they are torn, or end
}

// reading: what is to be seen in bytes, by another way than the program's: it goes from byte to byte.
func reading(b []byte) seen {
	s := seen{}
	for at := 0; ; at = s.places[len(s.places)-1] {
		if len(b)-at < 4 {
			return s
		}
		length, k := 0, at+4
		for {
			if k == len(b) {
				return s
			}
			if k == at+4 && b[k] == 128 || k == at+4+9 {
				s.e = api.ErrForm
				return s
			}
			length = length*128 + int(b[k]&127)
			k++
			if b[k-1] < 128 {
				break
			}
		}
		if length > most {
			s.e = api.ErrRange
			return s
		}
		if len(b)-k < length {
			return s
		}
		if binary.BigEndian.Uint32(b[at:]) != crc32.ChecksumIEEE(b[at+4:k+length]) {
			s.e = api.ErrSum
			return s
		}
		s.payloads = append(s.payloads, b[k:k+length])
		s.places = append(s.places, k+length)
	}
}

// end: where the whole part ends.
func (s seen) end() int {
	if len(s.places) == 0 {
		return 0
	}
	return s.places[len(s.places)-1]
}

// same: whether two lists have the same payloads.
func same(a, b [][]byte) bool {
	return slices.EqualFunc(a, b, bytes.Equal)
}

// check: that Scan and Frames answer what is to be seen in bytes.
func check(t *testing.T, promise string, b []byte) {
	t.Helper()
	want := reading(b)
	scanned, n, e := link.Scan(b)
	if want.e != api.OK {
		if len(scanned) != 0 || n != 0 || e != want.e {
			t.Errorf("%s: Scan(%s): %d payloads, %d, error %d, want none, 0, error %d", promise, short(b), len(scanned), n, e, want.e)
		}
	} else if !same(scanned, want.payloads) || n != want.end() || e != api.OK {
		t.Errorf("%s: Scan(%s): %d payloads, %d, error %d, want %d, %d, none", promise, short(b), len(scanned), n, e, len(want.payloads), want.end())
	}
	payloads, places := gone(b)
	if !same(payloads, want.payloads) || !slices.Equal(places, want.places) {
		t.Errorf("%s: Frames(%s): places %v, want %v", promise, short(b), places, want.places)
	}
}

// gone: what Frames gives, gone through to its end.
func gone(b []byte) (payloads [][]byte, places []int) {
	for at, p := range link.Frames(b) {
		payloads = append(payloads, p)
		places = append(places, at)
	}
	return payloads, places
}

// short: bytes as they are told of.
func short(b []byte) string {
	const digits = "0123456789abcdef"
	s := ""
	for _, x := range b[:min(len(b), 40)] {
		s += string(digits[x/16]) + string(digits[x%16])
	}
	return s
}

// some: so many bytes, the same ones at each run.
func some(r *rand.Rand, many int) []byte {
	b := make([]byte, many)
	r.Read(b)
	return b
}

func TestP4_1Sum(t *testing.T) {
	cases := []struct {
		text string
		want uint32
	}{
		{"123456789", 0xcbf43926},
		{"", 0},
		{"\x00", 0xd202ef8d},
		{"\x00\x00\x00\x00", 0x2144df1c},
		{"\xff\xff\xff\xff", 0xffffffff},
		{"a", 0xe8b7be43},
		{"abc", 0x352441c2},
		{"The quick brown fox jumps over the lazy dog", 0x414fa339},
	}
	for _, c := range cases {
		if n := link.Sum([]byte(c.text)); n != c.want {
			t.Errorf("P4.1: Sum(%q): %08x, want %08x", c.text, n, c.want)
		}
	}
	if n := link.Sum(nil); n != 0 {
		t.Errorf("P4.1: Sum of no bytes: %08x, want 0", n)
	}
	for x := range 256 {
		for y := range 256 {
			b := []byte{byte(x), byte(y)}
			if n := link.Sum(b); n != crc32.ChecksumIEEE(b) {
				t.Fatalf("P4.1: Sum(%x): %08x, want %08x", b, n, crc32.ChecksumIEEE(b))
			}
		}
	}
	r := rand.New(rand.NewSource(41))
	for range 500 {
		b := some(r, r.Intn(2000))
		if n := link.Sum(b); n != crc32.ChecksumIEEE(b) {
			t.Fatalf("P4.1: Sum of %d bytes: %08x, want %08x", len(b), n, crc32.ChecksumIEEE(b))
		}
	}
}

func TestP4_1FrameOfShortPayloads(t *testing.T) {
	// The sums are of what stands behind them: the length too.
	cases := []struct{ payload, want string }{
		{"", "\xd2\x02\xef\x8d\x00"},
		{"hi", "\x65\x8f\x35\x2f\x02hi"},
		{"123456789", "\x32\x62\x6e\x34\x09123456789"},
	}
	for _, c := range cases {
		b, e := link.Frame([]byte(c.payload))
		if string(b) != string(asFrame([]byte(c.payload))) || e != api.OK {
			t.Errorf("P4.1: Frame(%q): %x, error %d, want %x", c.payload, b, e, asFrame([]byte(c.payload)))
		}
		if string(b) != c.want {
			t.Errorf("P4.1: Frame(%q): %x, want %x", c.payload, b, c.want)
		}
	}
	if b, e := link.Frame(nil); string(b) != "\xd2\x02\xef\x8d\x00" || e != api.OK {
		t.Errorf("P4.1: Frame of no payload: %x, error %d", b, e)
	}
}

func TestP4_1FrameOfAnyLength(t *testing.T) {
	r := rand.New(rand.NewSource(42))
	for _, n := range []int{0, 1, 2, 126, 127, 128, 129, 300, 16383, 16384, 65535, 65536, most - 1, most} {
		p := some(r, n)
		if b, e := link.Frame(p); !bytes.Equal(b, asFrame(p)) || e != api.OK {
			t.Errorf("P4.1: Frame of %d bytes: %s.., error %d, want %s..", n, short(b), e, short(asFrame(p)))
		}
	}
	for _, n := range []int{most + 1, most + 2, 2 * most, 1 << 21} {
		if b, e := link.Frame(make([]byte, n)); len(b) != 0 || e != api.ErrFull {
			t.Errorf("P4.1: Frame of %d bytes: %d bytes, error %d, want none, error %d", n, len(b), e, api.ErrFull)
		}
	}
}

func TestP4_1Scan(t *testing.T) {
	one, none, three := asFrame([]byte("one")), asFrame(nil), asFrame([]byte("three"))
	turned := slices.Clone(three)
	turned[7] ^= 1
	cases := []struct {
		name     string
		b        []byte
		payloads string // with a dot behind each
		n        int
		e        api.Errno
	}{
		{"no bytes", nil, "", 0, api.OK},
		{"a frame", one, "one.", 8, api.OK},
		{"an empty payload", none, ".", 5, api.OK},
		{"frames", slices.Concat(one, none, three), "one..three.", 23, api.OK},
		{"within the sum", slices.Concat(one, three[:3]), "one.", 8, api.OK},
		{"ahead of the length", slices.Concat(one, three[:4]), "one.", 8, api.OK},
		{"within the payload", slices.Concat(one, three[:9]), "one.", 8, api.OK},
		{"ahead of the payload", slices.Concat(one, three[:5]), "one.", 8, api.OK},
		{"within the length", slices.Concat(one, []byte("\x00\x00\x00\x00\x81")), "one.", 8, api.OK},
		{"within a long length", []byte("\x00\x00\x00\x00\x8c\x9a"), "", 0, api.OK},
		{"a long payload that isn't whole", []byte("\x00\x00\x00\x00\x8c\x9a\x40"), "", 0, api.OK},
		{"a sum that isn't told", []byte("xxxx\x01a"), "", 0, api.ErrSum},
		{"a payload that is another", turned, "", 0, api.ErrSum},
		{"a frame behind one that is broken", slices.Concat(one, turned, none), "", 0, api.ErrSum},
		{"the sum of the payload alone", append(binary.BigEndian.AppendUint32(nil, crc32.ChecksumIEEE([]byte("one"))), "\x03one"...), "", 0, api.ErrSum},
		{"the lowest first", append(binary.LittleEndian.AppendUint32(nil, crc32.ChecksumIEEE([]byte("\x03one"))), "\x03one"...), "", 0, api.ErrSum},
		{"a length with a nothing ahead", slices.Concat(one, summed([]byte("\x80\x01a"))), "", 0, api.ErrForm},
		{"a length with a nothing ahead, alone", []byte("\x00\x00\x00\x00\x80"), "", 0, api.ErrForm},
		{"a length of ten bytes", summed([]byte("\x81\x80\x80\x80\x80\x80\x80\x80\x80\x00")), "", 0, api.ErrForm},
		{"a length that is too great", summed([]byte("\x8c\x9a\x41")), "", 0, api.ErrRange},
		{"a length that is far too great", summed([]byte("\xff\xff\xff\xff\xff\xff\xff\xff\x7f")), "", 0, api.ErrRange},
		{"a payload that is too long", asFrame(make([]byte, most+1)), "", 0, api.ErrRange},
	}
	for _, c := range cases {
		l, n, e := link.Scan(c.b)
		told := ""
		for _, p := range l {
			told += string(p) + "."
		}
		if told != c.payloads || n != c.n || e != c.e {
			t.Errorf("P4.1: Scan: %s: %q, %d, error %d, want %q, %d, error %d", c.name, told, n, e, c.payloads, c.n, c.e)
		}
		check(t, "P4.1", c.b)
	}
}

func TestP4_1FramesAreTheWholePart(t *testing.T) {
	good := asChain([]byte("one"), nil, []byte("three"))
	for _, behind := range []string{"", "x", "xxxx", "xxxx\x01a", "xxxx\x80", "xxxx\x8c\x9a\x41", "xxxx\x05a"} {
		payloads, places := gone(append(slices.Clone(good), behind...))
		if !same(payloads, [][]byte{[]byte("one"), nil, []byte("three")}) || !slices.Equal(places, []int{8, 13, 23}) {
			t.Errorf("P4.1: Frames, with %q behind them: %q, %v", behind, payloads, places)
		}
	}
}

func TestP4_1FramesEndWhenTold(t *testing.T) {
	b := asChain([]byte("a"), []byte("b"), []byte("c"), []byte("d"))
	for asked := 1; asked <= 4; asked++ {
		given := 0
		link.Frames(b)(func(at int, payload []byte) bool {
			given++
			if at != given*6 || string(payload) != string(rune('a'+given-1)) {
				t.Errorf("P4.1: Frames: the frame %d: %d, %q", given, at, payload)
			}
			return given < asked
		})
		if given != asked {
			t.Errorf("P4.1: Frames: %d given, where %d were asked", given, asked)
		}
	}
	frames := link.Frames(b)
	for range 3 {
		given := 0
		for range frames {
			given++
			if given == 2 {
				break
			}
		}
		all := 0
		for range frames {
			all++
		}
		if given != 2 || all != 4 {
			t.Errorf("P4.1: Frames again: %d, %d given, want 2, 4", given, all)
		}
	}
}

func TestP4_1AnyShortBytes(t *testing.T) {
	// Of few different bytes, so that lengths, their ends and what is wrong with them come often.
	r := rand.New(rand.NewSource(43))
	letters := []byte{0, 1, 2, 5, 0x7f, 0x80, 0x81, 0x8c, 0x9a, 0x40, 0x41, 0xff}
	for range 60_000 {
		behind := make([]byte, r.Intn(14))
		for i := range behind {
			behind[i] = letters[r.Intn(len(letters))]
		}
		b := asChain(slices.Repeat([][]byte{{7}}, r.Intn(3))...)
		if r.Intn(2) == 0 {
			b = append(b, summed(behind)...)
		} else {
			b = append(append(b, 0, 0, 0, 0), behind...)
		}
		check(t, "P4.1", b)
		if t.Failed() {
			return
		}
	}
}

func TestP4_2ChainsAreScanned(t *testing.T) {
	r := rand.New(rand.NewSource(44))
	for range 300 {
		var payloads [][]byte
		var chain []byte
		for range r.Intn(8) {
			p := some(r, r.Intn(300)>>r.Intn(9))
			f, e := link.Frame(p)
			if e != api.OK {
				t.Fatalf("P4.2: Frame of %d bytes: error %d", len(p), e)
			}
			payloads, chain = append(payloads, p), append(chain, f...)
		}
		if l, n, e := link.Scan(chain); !same(l, payloads) || n != len(chain) || e != api.OK {
			t.Fatalf("P4.2: Scan of %d frames: %d, %d of %d bytes, error %d", len(payloads), len(l), n, len(chain), e)
		}
	}
}

func TestP4_2AnyBeginningIsTorn(t *testing.T) {
	r := rand.New(rand.NewSource(45))
	payloads := [][]byte{[]byte("one"), nil, some(r, 127), some(r, 128), nil, some(r, 300), []byte("end")}
	chain := asChain(payloads...)
	ends := []int{}
	for _, p := range payloads {
		ends = append(ends, len(asFrame(p)))
	}
	for k := range len(chain) + 1 {
		whole, n := 0, 0
		for whole < len(ends) && n+ends[whole] <= k {
			n += ends[whole]
			whole++
		}
		l, at, e := link.Scan(chain[:k])
		if !same(l, payloads[:whole]) || at != n || e != api.OK {
			t.Errorf("P4.2: Scan of %d bytes: %d payloads, %d, error %d, want %d, %d, none", k, len(l), at, e, whole, n)
		}
		check(t, "P4.2", chain[:k])
	}
}

func TestP4_2TheLongestPayload(t *testing.T) {
	p := some(rand.New(rand.NewSource(46)), most)
	chain := asChain([]byte("a"), p, []byte("b"))
	if l, n, e := link.Scan(chain); !same(l, [][]byte{[]byte("a"), p, []byte("b")}) || n != len(chain) || e != api.OK {
		t.Errorf("P4.2: Scan with the longest payload: %d payloads, %d, error %d", len(l), n, e)
	}
	for _, k := range []int{len(chain) - 6, len(chain) - 7, 6 + 7, 6 + 6, 6 + 5} {
		check(t, "P4.2", chain[:k])
	}
}

func TestP4_2ABitThatIsTurned(t *testing.T) {
	chain := asChain([]byte("one"), nil, []byte("three"), bytes.Repeat([]byte{9}, 130), []byte("x"))
	for k := range chain {
		for bit := range 8 {
			b := slices.Clone(chain)
			b[k] ^= 1 << bit
			check(t, "P4.2", b)
			payloads, places := gone(b)
			if len(places) > 0 && places[len(places)-1] > k {
				t.Errorf("P4.2: Frames: a frame that ends at %d stands, with the bit %d of the byte %d turned", places[len(places)-1], bit, k)
			}
			if l, _, _ := link.Scan(b); len(l) > len(payloads) {
				t.Errorf("P4.2: Scan: %d payloads, Frames has %d", len(l), len(payloads))
			}
		}
	}
}

// roomy: bytes with others in the room behind them.
func roomy(b []byte) []byte {
	l := append(slices.Clone(b), "spare room that is the caller's"...)
	return l[:len(b)]
}

// overwrite: each byte of a list, and of the room behind it.
func overwrite(b []byte) {
	b = b[:cap(b)]
	for i := range b {
		b[i] = '#'
	}
}

func TestP4_3WhatIsHandedInStays(t *testing.T) {
	for _, b := range [][]byte{nil, []byte("payload"), asChain([]byte("one"), nil, []byte("two")), append(asChain([]byte("one")), "xxxx\x01a"...)} {
		given := roomy(b)
		before := slices.Clone(given[:cap(given)])
		link.Sum(given)
		frame, _ := link.Frame(given)
		scanned, _, _ := link.Scan(given)
		payloads, _ := gone(given)
		overwrite(frame)
		for _, p := range append(scanned, payloads...) {
			overwrite(p)
		}
		if !bytes.Equal(given[:cap(given)], before) {
			t.Errorf("P4.3: %x became %x", before, given[:cap(given)])
		}
	}
}

func TestP4_3AnswersAreNewMemory(t *testing.T) {
	want := [][]byte{[]byte("one"), nil, []byte("three"), []byte("four")}
	chain := asChain(want...)
	given := roomy(chain)
	frame, _ := link.Frame(given)
	scanned, _, _ := link.Scan(given)
	frames := link.Frames(given)
	payloads := [][]byte{}
	for _, p := range frames {
		payloads = append(payloads, p)
	}
	overwrite(given)
	if !bytes.Equal(frame, asFrame(chain)) || !same(scanned, want) || !same(payloads, want) {
		t.Errorf("P4.3: an answer changed with what was handed in: %x, %q, %q", frame, scanned, payloads)
	}
	again := [][]byte{}
	for _, p := range frames {
		again = append(again, p)
	}
	if !same(again, want) {
		t.Errorf("P4.3: Frames gave other ones when what was handed in had changed: %q", again)
	}
	for i := range want {
		for name, l := range map[string][][]byte{"Scan": scanned, "Frames": payloads} {
			overwrite(l[i])
			if !same(l[i+1:], want[i+1:]) {
				t.Errorf("P4.3: %s: the payloads behind the one at %d changed with it: %q", name, i, l)
			}
		}
		if !same(again, want) {
			t.Errorf("P4.3: Frames: two goings through share memory: %q", again)
		}
	}
}

func TestP4_3AConsumerMayChangeWhatItGets(t *testing.T) {
	frames := link.Frames(asChain([]byte("one"), []byte("two"), []byte("three")))
	for range 2 {
		got := ""
		for _, p := range frames {
			got += string(p) + "."
			overwrite(p)
		}
		if got != "one.two.three." {
			t.Errorf("P4.3: Frames: %q", got)
		}
	}
}

func TestP7NoBytes(t *testing.T) {
	for _, b := range [][]byte{nil, {}} {
		if l, n, e := link.Scan(b); len(l) != 0 || n != 0 || e != api.OK {
			t.Errorf("P7: Scan of no bytes: %q, %d, error %d", l, n, e)
		}
		for at, p := range link.Frames(b) {
			t.Errorf("P7: Frames of no bytes: %d, %q", at, p)
		}
	}
}
