package sect_test

import (
	"encoding/binary"
	"hash/crc32"
	"math"
	"slices"
	"strings"
	"testing"
	"transhumance/api"
	"transhumance/sect"
)

// noTags are numbers that are no tags.
var noTags = []int{-1, -2, -255, -256, -1 << 32, math.MinInt, 256, 257, 511, 512, 1 << 32, 1<<32 + 1, math.MaxInt}

// encoded is a section's encoding, made of the library's own parts.
func encoded(tag byte, payload string) string {
	s := binary.AppendUvarint([]byte{tag}, uint64(len(payload)))
	s = append(s, payload...)
	sum := crc32.ChecksumIEEE(append([]byte{tag}, payload...))
	return string(binary.LittleEndian.AppendUint32(s, sum))
}

// mixed makes a string of many bytes in which all bytes occur, in no plain order.
func mixed(many int) string {
	var b strings.Builder
	for x := uint32(many); b.Len() < many; {
		x = x*1664525 + 1013904223
		b.WriteByte(byte(x >> 24))
	}
	return b.String()
}

// payloads are strings at the edges of each length's encoding, and some that look like sections.
func payloads() []string {
	all := []string{"", "\x00", "\xff", "ab", "\x80\x00", "h\u00e9\u6f22\U0001F411", encoded(1, ""), encoded(7, encoded(8, "inner"))}
	for _, many := range []int{3, 31, 127, 128, 129, 300, 1<<14 - 1, 1 << 14} {
		all = append(all, mixed(many), strings.Repeat("\x00", many))
	}
	return all
}

// long are payloads with about as many bytes as there may be.
func long() []string {
	return []string{mixed(1<<20 - 1), mixed(1 << 20), strings.Repeat("\x00", 1<<20)}
}

func wantPut(t *testing.T, tag int, payload, s string) {
	t.Helper()
	if got := sect.Put(tag, payload); got != s {
		t.Errorf("Put(%d, %.40q), %d bytes: %.60q, %d bytes, want %.60q, %d bytes", tag, payload, len(payload), got, len(got), s, len(s))
	}
}

func wantGet(t *testing.T, s string, at, tag int, payload string, after int, e api.Errno) {
	t.Helper()
	gt, gp, ga, ge := sect.Get(s, at)
	if gt != tag || gp != payload || ga != after || ge != e {
		t.Errorf("Get(%.60q, %d), %d bytes: %d, %.40q of %d bytes, %d, %d; want %d, %.40q of %d bytes, %d, %d", s, at, len(s), gt, gp, len(gp), ga, ge, tag, payload, len(payload), after, e)
	}
}

// wantWrong: there is no section in s at at, whatever stands before and behind s in another string.
func wantWrong(t *testing.T, s string, e api.Errno) {
	t.Helper()
	wantGet(t, s, 0, 0, "", 0, e)
	for _, before := range []string{"x", "\x80\x80\x80", encoded(3, "abc")} {
		wantGet(t, before+s, len(before), 0, "", len(before), e)
	}
}

func wantAll(t *testing.T, s string, l []api.Section, at int, e api.Errno) {
	t.Helper()
	gl, ga, ge := sect.All(s)
	if !slices.Equal(gl, l) || ga != at || ge != e {
		t.Errorf("All(%.60q), %d bytes: %d sections, %d, %d; want %d sections, %d, %d", s, len(s), len(gl), ga, ge, len(l), at, e)
	}
}

// P3.1
func TestPutKnown(t *testing.T) {
	wantPut(t, 1, "", "\x01\x00\x1b\xdf\x05\xa5")
	wantPut(t, 0, "", "\x00\x00\x8d\xef\x02\xd2")
	wantPut(t, 255, "", "\xff\x00\x00\x00\x00\xff")
	wantPut(t, 'a', "bc", "a\x02bc\xc2\x41\x24\x35")
	wantPut(t, '1', "23456789", "1\x0823456789\x26\x39\xf4\xcb")
}

// P3.1
func TestPut(t *testing.T) {
	for tag := range 256 {
		wantPut(t, tag, "", encoded(byte(tag), ""))
		wantPut(t, tag, "ab", encoded(byte(tag), "ab"))
	}
	for _, payload := range append(payloads(), long()...) {
		wantPut(t, 2, payload, encoded(2, payload))
		wantPut(t, 255, payload, encoded(255, payload))
	}
}

// P3.1
func TestPutNothing(t *testing.T) {
	for _, tag := range noTags {
		wantPut(t, tag, "", "")
		wantPut(t, tag, "ab", "")
		wantPut(t, tag, mixed(1<<20+1), "")
	}
	for _, many := range []int{1<<20 + 1, 1<<20 + 2, 1 << 21} {
		for _, tag := range []int{0, 1, 255} {
			wantPut(t, tag, mixed(many), "")
		}
	}
}

// P3.1
func TestGet(t *testing.T) {
	for tag := range 256 {
		s := encoded(byte(tag), "ab")
		wantGet(t, s, 0, tag, "ab", len(s), api.OK)
	}
	for _, payload := range payloads() {
		s := encoded(9, payload)
		for _, before := range []string{"", "x", "\xff\xff\xff\xff\xff\xff\xff\xff", encoded(1, "")} {
			for _, behind := range []string{"", "y", "\x00\x00\x00\x00", encoded(2, "ab")} {
				at := len(before)
				wantGet(t, before+s+behind, at, 9, payload, at+len(s), api.OK)
			}
		}
	}
}

// P3.1
func TestGetPlace(t *testing.T) {
	for _, s := range []string{"", "\x00", encoded(1, ""), encoded(200, mixed(300)), "\x01\x80\x00"} {
		for _, at := range []int{-1, -2, math.MinInt, len(s) + 1, len(s) + 2, math.MaxInt - 1, math.MaxInt} {
			wantGet(t, s, at, 0, "", at, api.ErrArg)
		}
		wantGet(t, s, len(s), 0, "", len(s), api.ErrCut)
	}
}

// P3.1: of a section, all its beginnings are cut.
func TestGetCut(t *testing.T) {
	for _, payload := range []string{"", "a", "abcd", mixed(127), mixed(128), mixed(300)} {
		s := encoded(5, payload)
		for many := range len(s) {
			wantWrong(t, s[:many], api.ErrCut)
		}
	}
	whole := encoded(5, mixed(1<<20))
	for _, less := range []int{1, 2, 3, 4, 5, 1 << 10, 1 << 20} {
		wantWrong(t, whole[:len(whole)-less], api.ErrCut)
	}
	wantWrong(t, "\x01\x80\x80\x40", api.ErrCut) // a length of 2^20, which is not too much
	wantWrong(t, "\x01\x80", api.ErrCut)
	wantWrong(t, "\x01\xff\xff\xff\xff\xff\xff\xff", api.ErrCut)
	wantWrong(t, "\x01\x01abcd", api.ErrCut)
	wantWrong(t, "\x01\x05abcdefgh", api.ErrCut)
}

// P3.1: the length's own errors, with nothing and with enough behind it.
func TestGetLength(t *testing.T) {
	behind := []string{"", "ab", strings.Repeat("\x00", 1<<20+9)}
	for _, c := range []struct {
		length string
		e      api.Errno
	}{
		{"\x80\x00", api.ErrLoose},
		{"\x82\x00", api.ErrLoose},
		{"\x80\x80\x00", api.ErrLoose},
		{"\xff\xff\xff\xff\xff\xff\x00", api.ErrLoose},
		{"\xff\xff\xff\xff\xff\xff\x40", api.ErrWide},
		{"\xff\xff\xff\xff\xff\xff\x7f", api.ErrWide},
		{"\x80\x80\x80\x80\x80\x80\x80\x00", api.ErrWide},
		{"\x81\x80\x40", api.ErrWide}, // 2^20 + 1
		{"\x80\x80\x41", api.ErrWide},
		{"\x80\x80\x80\x01", api.ErrWide},
		{"\xff\xff\xff\xff\x0f", api.ErrWide},
		{"\xff\xff\xff\xff\xff\xff\x3f", api.ErrWide}, // 2^48 - 1
	} {
		for _, rest := range behind {
			wantWrong(t, "\x01"+c.length+rest, c.e)
		}
	}
	too := mixed(1<<20 + 1)
	wantWrong(t, encoded(1, too), api.ErrWide)
	for _, payload := range long() {
		s := encoded(1, payload)
		wantGet(t, "x"+s+"y", 1, 1, payload, 1+len(s), api.OK)
	}
}

// P3.1: whichever bit of the tag or of the checksum is another one.
func TestGetSum(t *testing.T) {
	for _, payload := range []string{"", "\x00", "ab", mixed(200)} {
		s := encoded(6, payload)
		for bit := range 8 {
			for _, at := range []int{0, len(s) - 4, len(s) - 3, len(s) - 2, len(s) - 1} {
				wantWrong(t, changed(s, 8*at+bit, 1), api.ErrSum)
			}
		}
		wantWrong(t, s[:len(s)-4]+"\x00\x00\x00\x00", api.ErrSum)
		wantWrong(t, s[:len(s)-4]+"\xff\xff\xff\xff", api.ErrSum)
		wantWrong(t, s[:len(s)-1]+encoded(6, ""), api.ErrSum) // what stands behind is no part of it
	}
	own := crc32.ChecksumIEEE([]byte("ab")) // of the payload alone
	wantWrong(t, string(binary.LittleEndian.AppendUint32([]byte("\x06\x02ab"), own)), api.ErrSum)
	all := crc32.ChecksumIEEE([]byte("\x06\x02ab")) // of the length, too
	wantWrong(t, string(binary.LittleEndian.AppendUint32([]byte("\x06\x02ab"), all)), api.ErrSum)
}

// several are sections with different tags and payloads, two of them alike.
func several() []api.Section {
	l := []api.Section{{Tag: 0, Payload: ""}, {Tag: 255, Payload: "ab"}, {Tag: 255, Payload: "ab"}}
	for i, payload := range payloads() {
		l = append(l, api.Section{Tag: 7 * i % 256, Payload: payload})
	}
	return l
}

// P3.2
func TestJoin(t *testing.T) {
	if got := sect.Join(); got != "" {
		t.Errorf("Join of nothing: %q", got)
	}
	l := several()
	kept := slices.Clone(l)
	want := ""
	for _, x := range l {
		want += encoded(byte(x.Tag), x.Payload)
	}
	if got := sect.Join(l...); got != want {
		t.Errorf("Join: %d bytes, want %d", len(got), len(want))
	}
	if !slices.Equal(l, kept) {
		t.Error("Join changed its arguments")
	}
}

// P3.2: what there is no encoding of leaves nothing, and the others stay.
func TestJoinNothing(t *testing.T) {
	too := api.Section{Tag: 1, Payload: mixed(1<<20 + 1)}
	l := []api.Section{too}
	for _, tag := range noTags {
		l = append(l, api.Section{Tag: tag, Payload: "ab"})
	}
	if got := sect.Join(l...); got != "" {
		t.Errorf("Join of no sections: %d bytes", len(got))
	}
	l = append(l, api.Section{Tag: 4, Payload: "x"}, too, api.Section{Tag: 5})
	if got := sect.Join(l...); got != encoded(4, "x")+encoded(5, "") {
		t.Errorf("Join with two sections among others: %q", got)
	}
}

// P3.2
func TestAll(t *testing.T) {
	wantAll(t, "", nil, 0, api.OK)
	l := several()
	s := ""
	for i, x := range l {
		s += encoded(byte(x.Tag), x.Payload)
		wantAll(t, s, l[:i+1], len(s), api.OK)
	}
	for _, payload := range long() {
		l = append(l, api.Section{Tag: 3, Payload: payload})
		s += encoded(3, payload)
	}
	wantAll(t, s, l, len(s), api.OK)
}

// P3.2
func TestAllMany(t *testing.T) {
	l := make([]api.Section, 3000)
	for i := range l {
		l[i] = api.Section{Tag: i % 256, Payload: mixed(i % 5)}
	}
	s := sect.Join(l...)
	wantAll(t, s, l, len(s), api.OK)
	wantAll(t, s+"\x00", nil, len(s), api.ErrCut)
}

// P3.2: each beginning of sections is either some of them, or cut at the one that is not whole.
func TestAllCut(t *testing.T) {
	l := []api.Section{{Tag: 1, Payload: "abc"}, {Tag: 0}, {Tag: 200, Payload: mixed(130)}, {Tag: 9, Payload: "\x00"}}
	s := sect.Join(l...)
	first, whole := 0, 0 // of the sections that are whole: where the next one begins, and how many
	for many := range len(s) + 1 {
		if whole < len(l) && many == first+len(encoded(byte(l[whole].Tag), l[whole].Payload)) {
			first = many
			whole++
		}
		if many == first {
			wantAll(t, s[:many], l[:whole], many, api.OK)
			continue
		}
		wantAll(t, s[:many], nil, first, api.ErrCut)
	}
	if whole != len(l) {
		t.Errorf("%d sections of %d", whole, len(l))
	}
}

// P3.2: the first invalid section is told, whatever follows.
func TestAllWrong(t *testing.T) {
	ab := encoded(1, "ab")
	for _, c := range []struct {
		s string
		e api.Errno
	}{
		{"\x01", api.ErrCut},
		{"\x01\x7f", api.ErrCut},
		{"\x01\x80\x00", api.ErrLoose},
		{"\x01\x81\x80\x40", api.ErrWide},
		{changed(ab, 0, 1), api.ErrSum},
		{changed(ab, 8*len(ab)-1, 1), api.ErrSum},
		{changed(ab, 16, 0xffff), api.ErrSum},
	} {
		for many := range 4 {
			before := strings.Repeat(ab, many)
			wantAll(t, before+c.s, nil, len(before), c.e)
			if len(c.s) > 2 {
				wantAll(t, before+c.s+ab+"\x01\x80\x00", nil, len(before), c.e)
			}
		}
	}
}

// R3, R4: what one call answered is not touched by what is done to it, nor by another call.
func TestAllApart(t *testing.T) {
	s := encoded(1, "a") + encoded(2, "b")
	first, _, _ := sect.All(s)
	second, _, _ := sect.All(s)
	first[0] = api.Section{Tag: 77, Payload: "z"}
	_ = append(first[:1], first[0])
	wantAll(t, s, second, len(s), api.OK)
}

// changed is s with those bits, from bit from on, made others that mask tells; a byte's bits are counted from the lowest one, as the checksum takes them.
func changed(s string, from int, mask uint32) string {
	b := []byte(s)
	wide := uint64(mask) << (from % 8)
	for at := from / 8; at < len(b) && wide > 0; at++ {
		b[at] ^= byte(wide)
		wide >>= 8
	}
	return string(b)
}

// wantChanged: a section whose payload was changed, but not what stands around it, is invalid.
func wantChanged(t *testing.T, payload string, from int, mask uint32) {
	t.Helper()
	s := encoded(3, payload)
	head, tail := s[:len(s)-4-len(payload)], s[len(s)-4:]
	bad := head + changed(payload, from, mask) + tail
	wantWrong(t, bad, api.ErrSum)
	wantAll(t, s+bad+s, nil, len(s), api.ErrSum)
}

// P3.3
func TestReadBack(t *testing.T) {
	for _, payload := range append(payloads(), long()...) {
		for _, tag := range []int{0, 1, 128, 255} {
			s := sect.Put(tag, payload)
			wantGet(t, s, 0, tag, payload, len(s), api.OK)
			wantGet(t, s+s, len(s), tag, payload, 2*len(s), api.OK)
		}
	}
	l := several()
	s := sect.Join(l...)
	wantAll(t, s, l, len(s), api.OK)
}

// P3.3
func TestChanged(t *testing.T) {
	for _, payload := range []string{"\x00", "abcd", "12345", "\xff\xff\xff\xff\xff", mixed(40), mixed(130)} {
		mask := uint32(len(payload))
		for from := range 8 * len(payload) {
			wantChanged(t, payload, from, 1)
			wantChanged(t, payload, from, math.MaxUint32)
			wantChanged(t, payload, from, 1<<31|1)
			for range 10 {
				mask = mask*1664525 + 1013904223
				wantChanged(t, payload, from, mask|1)
			}
		}
	}
	full := mixed(1 << 20)
	for _, from := range []int{0, 1 << 22, 8<<20 - 1} {
		wantChanged(t, full, from, math.MaxUint32)
	}
}

// P3.3: all changes of two bytes, wherever they stand.
func TestChangedBytes(t *testing.T) {
	for mask := 1; mask < 1<<16; mask++ {
		bad := changed("\x03\x06abcdef", 8*(2+mask%5), uint32(mask))
		sum := encoded(3, "abcdef")[8:]
		wantGet(t, bad+sum, 0, 0, "", 0, api.ErrSum)
	}
}

// wantOnly: what Get reads at at is what Put writes for it.
func wantOnly(t *testing.T, s string, at int) {
	t.Helper()
	tag, payload, after, e := sect.Get(s, at)
	if e != api.OK {
		wantGet(t, s, at, 0, "", at, e)
		return
	}
	wantPut(t, tag, payload, s[at:after])
}

// wantOnlyAll: what All reads is what Join writes for it; what it does not read, Get does not read either.
func wantOnlyAll(t *testing.T, s string) {
	t.Helper()
	l, at, e := sect.All(s)
	if e != api.OK {
		wantAll(t, s, nil, at, e)
		wantGet(t, s, at, 0, "", at, e)
		l, _, _ = sect.All(s[:at])
		wantAll(t, s[:at], l, at, api.OK)
	}
	if sect.Join(l...) != s[:at] {
		t.Errorf("All(%.60q), %d bytes: %d sections up to %d, which are written as %.60q", s, len(s), len(l), at, sect.Join(l...))
	}
}

// P3.1, P3.2, P3.3
func FuzzSections(f *testing.F) {
	for i, payload := range payloads() {
		f.Add(encoded(byte(i), payload)+encoded(1, "ab"), i)
		f.Add("\x01\x82\x00ab"+payload, -i)
	}
	f.Fuzz(func(t *testing.T, s string, at int) {
		wantOnly(t, s, at)
		wantOnlyAll(t, s)
		wantOnlyAll(t, encoded(byte(at), "ab")+s)
		if len(s) <= api.MaxBytes {
			wantPut(t, int(byte(at)), s, encoded(byte(at), s))
			wantGet(t, encoded(byte(at), s), 0, int(byte(at)), s, len(encoded(1, s)), api.OK)
		}
	})
}
