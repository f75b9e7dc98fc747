package rippkt

import (
	"bytes"
	"encoding/binary"
	"math"
	"net"
	"slices"
	"testing"

	"octroi/api"
)

// The limits, by hand.
const (
	most  = 25
	least = 4
	size  = 20
)

// wrongCommands are numbers that no Command may be, some of which have the low byte of one that may.
var wrongCommands = []int{0, 3, 4, 255, 256, 257, 258, 1<<16 + 1, 1<<32 + 1, 1<<32 + 2, -1, -2, -254, -255, math.MinInt, math.MinInt + 1, math.MinInt + 2, math.MaxInt, math.MaxInt - 1}

// wrongMetrics are numbers that no Metric may be, some of which have the low bytes of one that may.
var wrongMetrics = []int{0, 17, 18, 32, 256, 257, 1<<16 + 1, 1 << 31, 1<<32 - 1, 1 << 32, 1<<32 + 1, 1<<32 + 16, -1, -15, -16, -1<<32 + 1, math.MinInt, math.MinInt + 1, math.MinInt + 16, math.MaxInt}

// wrongPrefixes are prefixes that may not be, by their Len or by bits behind it.
var wrongPrefixes = []api.Prefix{
	{Addr: 0, Len: -1},
	{Addr: 0, Len: -8},
	{Addr: 0, Len: 33},
	{Addr: 0x0a000000, Len: 40},
	{Addr: 0x0a000000, Len: 264},
	{Addr: 0x0a000000, Len: 1<<32 + 8},
	{Addr: 0, Len: math.MinInt},
	{Addr: 0x0a000000, Len: math.MinInt + 8},
	{Addr: math.MaxUint32, Len: math.MaxInt},
	{Addr: 0x0a000001, Len: 8},
	{Addr: 0x0a800000, Len: 8},
	{Addr: 1, Len: 0},
	{Addr: 0x80000000, Len: 0},
	{Addr: math.MaxUint32, Len: 31},
}

// plain is an entry of which all bytes differ that may; plainBytes are its bytes, by hand.
func plain() api.RipEntry {
	return api.RipEntry{Prefix: api.Prefix{Addr: 0x15263740, Len: 26}, Tag: 0xa1b2, Next: 0xc3d4e5f6, Metric: 7}
}

const plainBytes = "\x00\x02\xa1\xb2\x15\x26\x37\x40\xff\xff\xff\xc0\xc3\xd4\xe5\xf6\x00\x00\x00\x07"

// whole is the request for the whole table, by hand.
const whole = "\x01\x02\x00\x00\x00\x00\x00\x00\x00\x00\x00\x00\x00\x00\x00\x00\x00\x00\x00\x00\x00\x00\x00\x10"

// someEntries are n entries that may be, no two of them the same.
func someEntries(n int) []api.RipEntry {
	var out []api.RipEntry
	seed := uint32(n) + 3
	for i := range n {
		seed = seed*1664525 + 1013904223
		bits := (i*7 + n) % 33
		mask := binary.BigEndian.Uint32(net.CIDRMask(bits, 32))
		out = append(out, api.RipEntry{
			Prefix: api.Prefix{Addr: (seed ^ seed>>13) & mask, Len: bits},
			Tag:    uint16(seed>>8) ^ uint16(i),
			Next:   seed * 2654435761,
			Metric: 1 + (i+n)%16,
		})
	}
	return out
}

// somePackets are packets that may be: of each Command, with each number of entries, and the one that is Whole.
func somePackets() []api.RipPacket {
	out := []api.RipPacket{{Command: 1, Whole: true}, {Command: 1, Whole: true, Entries: []api.RipEntry{}}}
	for command := 1; command <= 2; command++ {
		for n := range most + 1 {
			out = append(out, api.RipPacket{Command: command, Entries: someEntries(n)})
		}
		// the entry whose bytes are nearest to those of a Whole one
		out = append(out, api.RipPacket{Command: command, Entries: []api.RipEntry{{Metric: 16}}})
	}
	return out
}

// slowMayEntry is the chapter's MAY BE, of an entry, with masks of the library.
func slowMayEntry(entry api.RipEntry) bool {
	if entry.Prefix.Len < 0 || entry.Prefix.Len > 32 || entry.Metric < 1 || entry.Metric > 16 {
		return false
	}
	mask := binary.BigEndian.Uint32(net.CIDRMask(entry.Prefix.Len, 32))
	return entry.Prefix.Addr&^mask == 0
}

// slowEncode is P5.1, with numbers and masks of the library.
func slowEncode(p api.RipPacket) ([]byte, api.Errno) {
	if len(p.Entries) > most {
		return nil, api.ErrLong
	}
	if p.Command != 1 && p.Command != 2 || p.Whole && p.Command == 2 || p.Whole && len(p.Entries) != 0 || slices.ContainsFunc(p.Entries, func(entry api.RipEntry) bool { return !slowMayEntry(entry) }) {
		return nil, api.ErrArg
	}
	if p.Whole {
		return []byte(whole), api.OK
	}
	out := []byte{byte(p.Command), 2, 0, 0}
	for _, entry := range p.Entries {
		out = append(out, 0, 2)
		out = binary.BigEndian.AppendUint16(out, entry.Tag)
		out = binary.BigEndian.AppendUint32(out, entry.Prefix.Addr)
		out = append(out, net.CIDRMask(entry.Prefix.Len, 32)...)
		out = binary.BigEndian.AppendUint32(out, entry.Next)
		out = append(out, 0, 0, 0, byte(entry.Metric))
	}
	return out, api.OK
}

// slowDecode is P5.2, with numbers and masks of the library.
func slowDecode(b []byte) (api.RipPacket, api.Errno) {
	if len(b) < 4 || len(b)%20 != 4 || b[0] == 0 || b[0] > 2 || string(b[1:4]) != "\x02\x00\x00" {
		return api.RipPacket{}, api.ErrForm
	}
	if len(b) > 504 {
		return api.RipPacket{}, api.ErrLong
	}
	if string(b) == whole {
		return api.RipPacket{Command: 1, Whole: true}, api.OK
	}
	out := api.RipPacket{Command: int(b[0])}
	for at := 4; at < len(b); at += 20 {
		bits, of := net.IPMask(b[at+8 : at+12]).Size()
		entry := api.RipEntry{
			Prefix: api.Prefix{Addr: binary.BigEndian.Uint32(b[at+4:]), Len: bits},
			Tag:    binary.BigEndian.Uint16(b[at+2:]),
			Next:   binary.BigEndian.Uint32(b[at+12:]),
			Metric: int(binary.BigEndian.Uint32(b[at+16:])),
		}
		if b[at] != 0 || b[at+1] != 2 || of != 32 || !slowMayEntry(entry) {
			return api.RipPacket{}, api.ErrForm
		}
		out.Entries = append(out.Entries, entry)
	}
	return out, api.OK
}

// same tells whether two packets are the same; no entries may be nil or empty (R6).
func same(p, q api.RipPacket) bool {
	return p.Command == q.Command && p.Whole == q.Whole && slices.Equal(p.Entries, q.Entries)
}

// checkEncode holds Encode against slowEncode, and what was handed in against what it was.
func checkEncode(t *testing.T, p api.RipPacket) {
	t.Helper()
	before := api.RipPacket{Command: p.Command, Whole: p.Whole, Entries: slices.Clone(p.Entries)}
	want, wantErr := slowEncode(p)
	got, e := Encode(p)
	if !bytes.Equal(got, want) || e != wantErr {
		t.Fatalf("Encode(%+v) = %x, %d, want %x, %d", p, got, e, want, wantErr)
	}
	if !same(p, before) {
		t.Fatalf("Encode(%+v) left %+v", before, p)
	}
}

// wantRefused asks for an error of Encode, with which there are no bytes.
func wantRefused(t *testing.T, p api.RipPacket, want api.Errno) {
	t.Helper()
	if got, e := Encode(p); len(got) != 0 || e != want {
		t.Errorf("Encode(%+v) = %x, %d, want none and %d", p, got, e, want)
	}
	checkEncode(t, p)
}

// checkDecode holds Decode against slowDecode, and what was handed in against what it was.
func checkDecode(t *testing.T, b []byte) {
	t.Helper()
	before := bytes.Clone(b)
	want, wantErr := slowDecode(b)
	got, e := Decode(b)
	if !same(got, want) || e != wantErr {
		t.Fatalf("Decode(%x) = %+v, %d, want %+v, %d", b, got, e, want, wantErr)
	}
	if !bytes.Equal(b, before) {
		t.Fatalf("Decode(%x) left %x", before, b)
	}
}

// wantNone asks for an error of Decode, with which the packet is noughts.
func wantNone(t *testing.T, b []byte, want api.Errno) {
	t.Helper()
	if got, e := Decode(b); !same(got, api.RipPacket{}) || e != want {
		t.Errorf("Decode(%x) = %+v, %d, want noughts and %d", b, got, e, want)
	}
	checkDecode(t, b)
}

// withByte is a copy of b with another byte at a place.
func withByte(b []byte, at int, to byte) []byte {
	out := bytes.Clone(b)
	out[at] = to
	return out
}

// P5.1: the bytes, by hand.
func TestEncode(t *testing.T) {
	ten := api.RipEntry{Prefix: api.Prefix{Addr: 0x0a000000, Len: 8}, Tag: 0x0102, Next: 5, Metric: 3}
	for _, c := range []struct {
		p    api.RipPacket
		want string
	}{
		{api.RipPacket{Command: 1}, "\x01\x02\x00\x00"},
		{api.RipPacket{Command: 2}, "\x02\x02\x00\x00"},
		{api.RipPacket{Command: 2, Entries: []api.RipEntry{}}, "\x02\x02\x00\x00"},
		{api.RipPacket{Command: 1, Whole: true}, whole},
		{api.RipPacket{Command: 1, Whole: true, Entries: []api.RipEntry{}}, whole},
		{api.RipPacket{Command: 1, Entries: []api.RipEntry{plain()}}, "\x01\x02\x00\x00" + plainBytes},
		{api.RipPacket{Command: 2, Entries: []api.RipEntry{plain()}}, "\x02\x02\x00\x00" + plainBytes},
		{api.RipPacket{Command: 2, Entries: []api.RipEntry{ten, plain()}}, "\x02\x02\x00\x00" +
			"\x00\x02\x01\x02\x0a\x00\x00\x00\xff\x00\x00\x00\x00\x00\x00\x05\x00\x00\x00\x03" + plainBytes},
		{api.RipPacket{Command: 2, Entries: []api.RipEntry{plain(), plain()}}, "\x02\x02\x00\x00" + plainBytes + plainBytes},
		{api.RipPacket{Command: 1, Entries: []api.RipEntry{{Metric: 16}}}, "\x01\x02\x00\x00" +
			"\x00\x02\x00\x00\x00\x00\x00\x00\x00\x00\x00\x00\x00\x00\x00\x00\x00\x00\x00\x10"},
		{api.RipPacket{Command: 2, Entries: []api.RipEntry{{Prefix: api.Prefix{Addr: math.MaxUint32, Len: 32}, Tag: 65535, Next: math.MaxUint32, Metric: 1}}}, "\x02\x02\x00\x00" +
			"\x00\x02\xff\xff\xff\xff\xff\xff\xff\xff\xff\xff\xff\xff\xff\xff\x00\x00\x00\x01"},
	} {
		if got, e := Encode(c.p); string(got) != c.want || e != api.OK {
			t.Errorf("Encode(%+v) = %x, %d, want %x", c.p, got, e, c.want)
		}
		checkEncode(t, c.p)
	}
}

// P5.1: a Command that is neither 1 nor 2, also one whose low byte is.
func TestEncodeCommand(t *testing.T) {
	for _, command := range wrongCommands {
		for _, isWhole := range []bool{false, true} {
			wantRefused(t, api.RipPacket{Command: command, Whole: isWhole}, api.ErrArg)
			wantRefused(t, api.RipPacket{Command: command, Whole: isWhole, Entries: []api.RipEntry{plain()}}, api.ErrArg)
		}
	}
	for command := -300; command < 600; command++ {
		checkEncode(t, api.RipPacket{Command: command, Entries: []api.RipEntry{plain()}})
	}
}

// P5.1: one that is Whole has the Command 1, and no entry.
func TestEncodeWhole(t *testing.T) {
	wantRefused(t, api.RipPacket{Command: 2, Whole: true}, api.ErrArg)
	for command := 1; command <= 2; command++ {
		for _, n := range []int{1, 2, most} {
			wantRefused(t, api.RipPacket{Command: command, Whole: true, Entries: someEntries(n)}, api.ErrArg)
		}
		wantRefused(t, api.RipPacket{Command: command, Whole: true, Entries: []api.RipEntry{{Metric: 16}}}, api.ErrArg)
		wantRefused(t, api.RipPacket{Command: command, Whole: true, Entries: make([]api.RipEntry, 1)}, api.ErrArg)
	}
}

// P5.1, R2: as many entries as there may be, and more: ErrLong goes ahead of ErrArg.
func TestEncodeLong(t *testing.T) {
	for n := range most + 1 {
		for command := 1; command <= 2; command++ {
			p := api.RipPacket{Command: command, Entries: someEntries(n)}
			if got, e := Encode(p); len(got) != 4+20*n || e != api.OK {
				t.Errorf("Encode of %d entries: %d bytes, %d", n, len(got), e)
			}
			checkEncode(t, p)
		}
	}
	for _, n := range []int{most + 1, most + 2, 2 * most, 256, 281, 1000} {
		good := someEntries(n)
		wantRefused(t, api.RipPacket{Command: 1, Entries: good}, api.ErrLong)
		wantRefused(t, api.RipPacket{Command: 2, Entries: good}, api.ErrLong)
		wantRefused(t, api.RipPacket{Command: 3, Entries: good}, api.ErrLong)
		wantRefused(t, api.RipPacket{Command: 0, Entries: good}, api.ErrLong)
		wantRefused(t, api.RipPacket{Command: 1, Whole: true, Entries: good}, api.ErrLong)
		wantRefused(t, api.RipPacket{Command: 2, Entries: make([]api.RipEntry, n)}, api.ErrLong)
		bad := slices.Clone(good)
		bad[0].Prefix.Len, bad[n-1].Metric = 33, 0
		wantRefused(t, api.RipPacket{Command: 2, Entries: bad}, api.ErrLong)
	}
}

// P5.1: a prefix that may not be, at any place among good entries.
func TestEncodePrefix(t *testing.T) {
	for _, wrong := range wrongPrefixes {
		entry := plain()
		entry.Prefix = wrong
		wantRefused(t, api.RipPacket{Command: 2, Entries: []api.RipEntry{entry}}, api.ErrArg)
		for at := range most {
			entries := someEntries(most)
			entries[at].Prefix = wrong
			wantRefused(t, api.RipPacket{Command: 1, Entries: entries}, api.ErrArg)
		}
	}
}

// P5.1: each Len with each one bit of an address.
func TestEncodeMasks(t *testing.T) {
	for bits := -3; bits < 40; bits++ {
		for i := range 33 {
			entry := plain()
			entry.Prefix = api.Prefix{Addr: uint32(1 << i), Len: bits}
			checkEncode(t, api.RipPacket{Command: 2, Entries: []api.RipEntry{entry}})
		}
	}
}

// P5.1: a Metric from 1 to 16, and others, at any place among good entries.
func TestEncodeMetric(t *testing.T) {
	entry := plain()
	for metric := 1; metric <= 16; metric++ {
		entry.Metric = metric
		got, e := Encode(api.RipPacket{Command: 2, Entries: []api.RipEntry{entry}})
		if want := "\x02\x02\x00\x00" + plainBytes[:19] + string([]byte{byte(metric)}); string(got) != want || e != api.OK {
			t.Errorf("Encode of the Metric %d = %x, %d, want %x", metric, got, e, want)
		}
	}
	for _, metric := range wrongMetrics {
		entry.Metric = metric
		wantRefused(t, api.RipPacket{Command: 2, Entries: []api.RipEntry{entry}}, api.ErrArg)
		for at := range most {
			entries := someEntries(most)
			entries[at].Metric = metric
			wantRefused(t, api.RipPacket{Command: 1, Entries: entries}, api.ErrArg)
		}
	}
	for metric := -40; metric < 600; metric++ {
		entry.Metric = metric
		checkEncode(t, api.RipPacket{Command: 1, Entries: []api.RipEntry{entry}})
	}
}

// P5.2: packets, by hand.
func TestDecode(t *testing.T) {
	for _, c := range []struct {
		b    string
		want api.RipPacket
	}{
		{"\x01\x02\x00\x00", api.RipPacket{Command: 1}},
		{"\x02\x02\x00\x00", api.RipPacket{Command: 2}},
		{whole, api.RipPacket{Command: 1, Whole: true}},
		{"\x01\x02\x00\x00" + plainBytes, api.RipPacket{Command: 1, Entries: []api.RipEntry{plain()}}},
		{"\x02\x02\x00\x00" + plainBytes, api.RipPacket{Command: 2, Entries: []api.RipEntry{plain()}}},
		{"\x02\x02\x00\x00" + plainBytes + plainBytes, api.RipPacket{Command: 2, Entries: []api.RipEntry{plain(), plain()}}},
		{"\x02\x02\x00\x00" + plainBytes + "\x00\x02\x01\x02\x0a\x00\x00\x00\xff\x00\x00\x00\x00\x00\x00\x05\x00\x00\x00\x03", api.RipPacket{Command: 2, Entries: []api.RipEntry{
			plain(), {Prefix: api.Prefix{Addr: 0x0a000000, Len: 8}, Tag: 0x0102, Next: 5, Metric: 3}}}},
		// one byte off a Whole one
		{"\x01\x02\x00\x00\x00\x02\x00\x00\x00\x00\x00\x00\x00\x00\x00\x00\x00\x00\x00\x00\x00\x00\x00\x10", api.RipPacket{Command: 1, Entries: []api.RipEntry{{Metric: 16}}}},
		{"\x02\x02\x00\x00\x00\x02\xff\xff\xff\xff\xff\xff\xff\xff\xff\xff\xff\xff\xff\xff\x00\x00\x00\x01", api.RipPacket{Command: 2, Entries: []api.RipEntry{
			{Prefix: api.Prefix{Addr: math.MaxUint32, Len: 32}, Tag: 65535, Next: math.MaxUint32, Metric: 1}}}},
	} {
		if got, e := Decode([]byte(c.b)); !same(got, c.want) || e != api.OK {
			t.Errorf("Decode(%x) = %+v, %d, want %+v", c.b, got, e, c.want)
		}
		checkDecode(t, []byte(c.b))
	}
}

// P5.2: every length, of bytes that are good entries as far as they go.
func TestDecodeLengths(t *testing.T) {
	wantNone(t, nil, api.ErrForm)
	wantNone(t, []byte{}, api.ErrForm)
	for command := byte(1); command <= 2; command++ {
		long := append([]byte{command, 2, 0, 0}, bytes.Repeat([]byte(plainBytes), 60)...)
		for n := range len(long) + 1 {
			b := long[:n:n]
			switch {
			case n < least || (n-least)%size != 0:
				wantNone(t, b, api.ErrForm)
			case n > 504:
				wantNone(t, b, api.ErrLong)
			default:
				if got, e := Decode(b); len(got.Entries) != (n-least)/size || got.Command != int(command) || e != api.OK {
					t.Errorf("Decode of %d bytes: %d entries, %d", n, len(got.Entries), e)
				}
				checkDecode(t, b)
			}
		}
	}
}

// P5.2: what is in memory behind the bytes plays no part, and stays.
func TestDecodeBehind(t *testing.T) {
	long := append([]byte{2, 2, 0, 0}, bytes.Repeat([]byte(plainBytes), 3)...)
	before := bytes.Clone(long)
	for n := range len(long) {
		want, wantErr := slowDecode(bytes.Clone(long[:n]))
		if got, e := Decode(long[:n]); !same(got, want) || e != wantErr {
			t.Errorf("Decode(%x) = %+v, %d, want %+v, %d", long[:n], got, e, want, wantErr)
		}
		if !bytes.Equal(long, before) {
			t.Fatalf("Decode(%x) left %x", before, long)
		}
	}
}

// P5.2: each of the first four bytes with each other value, without, with one and with too many entries.
func TestDecodeHead(t *testing.T) {
	for _, n := range []int{0, 1, 3, most, most + 1} {
		for command := byte(1); command <= 2; command++ {
			b := append([]byte{command, 2, 0, 0}, bytes.Repeat([]byte(plainBytes), n)...)
			for at := range least {
				for to := range 256 {
					other := withByte(b, at, byte(to))
					if at == 0 && (to == 1 || to == 2) || byte(to) == b[at] {
						checkDecode(t, other)
						continue
					}
					wantNone(t, other, api.ErrForm)
				}
			}
		}
	}
	for _, head := range []string{"\x00\x00\x00\x00", "\x02\x01\x00\x00", "\x01\x01\x00\x00", "\x02\x02\x00\x01", "\x02\x02\x01\x00", "\x03\x02\x00\x00", "\xff\xff\xff\xff", "\x00\x00\x02\x02"} {
		wantNone(t, []byte(head), api.ErrForm)
		wantNone(t, []byte(head+plainBytes), api.ErrForm)
	}
}

// P5.2: the request for the whole table is one with the Command 1 and that entry alone.
func TestDecodeWhole(t *testing.T) {
	b, table := []byte(whole), whole[least:]
	wantNone(t, withByte(b, 0, 2), api.ErrForm)
	wantNone(t, []byte(whole+table), api.ErrForm)
	wantNone(t, []byte(whole+plainBytes), api.ErrForm)
	wantNone(t, []byte("\x01\x02\x00\x00"+plainBytes+table), api.ErrForm)
	wantNone(t, []byte("\x02\x02\x00\x00"+plainBytes+table), api.ErrForm)
	wantNone(t, append([]byte{1, 2, 0, 0}, bytes.Repeat([]byte(table), most)...), api.ErrForm)
	wantNone(t, append([]byte{1, 2, 0, 0}, make([]byte, size)...), api.ErrForm)
	for at := range b {
		for to := range 256 {
			other := withByte(b, at, byte(to))
			switch {
			case bytes.Equal(other, b):
				checkDecode(t, other)
			case at == 5 && to == 2:
				// 0 2 ahead makes it an entry, of the prefix of all addresses
				if got, e := Decode(other); !same(got, api.RipPacket{Command: 1, Entries: []api.RipEntry{{Metric: 16}}}) || e != api.OK {
					t.Errorf("Decode(%x) = %+v, %d", other, got, e)
				}
			default:
				wantNone(t, other, api.ErrForm)
			}
		}
	}
}

// P5.2: each byte of an entry with each value, alone and behind good entries.
func TestDecodeOneByteOff(t *testing.T) {
	b := append([]byte{2, 2, 0, 0}, bytes.Repeat([]byte(plainBytes), 3)...)
	for at := range b {
		for to := range 256 {
			other := withByte(b, at, byte(to))
			checkDecode(t, other)
			checkDecode(t, other[:least+size])
		}
	}
	for _, p := range somePackets() {
		b, _ := slowEncode(p)
		for at := range b {
			for _, flip := range []byte{1, 2, 0x10, 0x80, 0xff} {
				checkDecode(t, withByte(b, at, b[at]^flip))
			}
		}
	}
}

// wrongEntries are bytes that are no entry, each by one fault.
func wrongEntries() []string {
	table := []string{
		// not 0 2 ahead
		"\x00\x00" + plainBytes[2:], "\x00\x01" + plainBytes[2:], "\x00\x03" + plainBytes[2:], "\x02\x00" + plainBytes[2:], "\x01\x02" + plainBytes[2:], "\xff\xff" + plainBytes[2:], "\x02\x02" + plainBytes[2:],
		whole[least:],
		string(make([]byte, size)),
	}
	// a mask that is none
	for _, mask := range []string{"\x00\x00\x00\x01", "\x7f\xff\xff\xff", "\xff\x00\xff\x00", "\xff\xff\xff\xfd", "\xff\xff\xff\xa0", "\xbf\xff\xff\xff", "\x80\x00\x00\x01", "\x00\xff\xff\xff", "\x40\x00\x00\x00"} {
		table = append(table, plainBytes[:8]+mask+plainBytes[12:], plainBytes[:4]+"\x00\x00\x00\x00"+mask+plainBytes[12:])
	}
	// an address with other bits than those of the mask
	for _, pair := range []string{"\x0a\x00\x00\x01\xff\x00\x00\x00", "\x0a\x80\x00\x00\xff\x00\x00\x00", "\x00\x00\x00\x01\x00\x00\x00\x00", "\x80\x00\x00\x00\x00\x00\x00\x00", "\xff\xff\xff\xff\xff\xff\xff\xfe", "\x40\x00\x00\x00\x80\x00\x00\x00", "\x15\x26\x37\x40\xff\xff\xff\x80"} {
		table = append(table, plainBytes[:4]+pair+plainBytes[12:])
	}
	// a metric that is not 1 to 16, with which some low bytes are
	for _, metric := range []string{"\x00\x00\x00\x00", "\x00\x00\x00\x11", "\x00\x00\x00\xff", "\x00\x00\x01\x00", "\x00\x00\x01\x01", "\x00\x01\x00\x01", "\x01\x00\x00\x01", "\x80\x00\x00\x10", "\x01\x02\x03\x04", "\xff\xff\xff\xff", "\xff\xff\xff\xf0", "\x10\x00\x00\x00"} {
		table = append(table, plainBytes[:16]+metric)
	}
	return table
}

// P5.2: bytes that are no entry: alone, ahead of good ones, between them and behind them.
func TestDecodeEntries(t *testing.T) {
	for _, wrong := range wrongEntries() {
		for command := byte(1); command <= 2; command++ {
			if command == 1 && wrong == whole[least:] {
				continue
			}
			wantNone(t, append([]byte{command, 2, 0, 0}, wrong...), api.ErrForm)
		}
		for at := range most {
			b := append([]byte{2, 2, 0, 0}, bytes.Repeat([]byte(plainBytes), most)...)
			copy(b[least+size*at:], wrong)
			wantNone(t, b, api.ErrForm)
		}
	}
}

// P5.2: each metric from 1 to 16 and each mask.
func TestDecodeMetricsAndMasks(t *testing.T) {
	for metric := range 300 {
		b := []byte("\x02\x02\x00\x00" + plainBytes)
		binary.BigEndian.PutUint32(b[20:], uint32(metric))
		if got, e := Decode(b); e == api.OK != (metric >= 1 && metric <= 16) || e == api.OK && got.Entries[0].Metric != metric {
			t.Errorf("Decode of the metric %d: %+v, %d", metric, got, e)
		}
		checkDecode(t, b)
	}
	for bits := range 33 {
		mask := binary.BigEndian.Uint32(net.CIDRMask(bits, 32))
		for i := range 33 {
			b := []byte("\x02\x02\x00\x00" + plainBytes)
			binary.BigEndian.PutUint32(b[8:], uint32(1<<i))
			binary.BigEndian.PutUint32(b[12:], mask)
			checkDecode(t, b)
			binary.BigEndian.PutUint32(b[8:], mask)
			binary.BigEndian.PutUint32(b[12:], mask^uint32(1<<i))
			checkDecode(t, b)
		}
	}
}

// P5.2, R2: where two faults are, the first one counts.
func TestDecodeTwoFaults(t *testing.T) {
	good := bytes.Repeat([]byte(plainBytes), most+1)
	bad := bytes.Repeat([]byte{9}, size*(most+1))
	table := bytes.Repeat([]byte(whole[least:]), most+1)
	for _, c := range []struct {
		head, rest []byte
		want       api.Errno
	}{
		// a length that is none, and too many
		{[]byte{2, 2, 0, 0}, append(bytes.Clone(good), 0), api.ErrForm},
		{[]byte{2, 2, 0, 0}, append(bytes.Clone(good), good[:19]...), api.ErrForm},
		// a head that is none, and too many
		{[]byte{3, 2, 0, 0}, good, api.ErrForm},
		{[]byte{2, 1, 0, 0}, good, api.ErrForm},
		{[]byte{2, 2, 1, 0}, good, api.ErrForm},
		{[]byte{2, 2, 0, 1}, good, api.ErrForm},
		// too many, and none of them an entry
		{[]byte{2, 2, 0, 0}, good, api.ErrLong},
		{[]byte{2, 2, 0, 0}, bad, api.ErrLong},
		{[]byte{1, 2, 0, 0}, bad, api.ErrLong},
		{[]byte{1, 2, 0, 0}, table, api.ErrLong},
		// no entries, but not too many
		{[]byte{2, 2, 0, 0}, bad[:size*most], api.ErrForm},
		{[]byte{1, 2, 0, 0}, table[:size*most], api.ErrForm},
		// a length that is none, and a head that is none
		{[]byte{3, 3, 3, 3}, []byte{3}, api.ErrForm},
	} {
		wantNone(t, slices.Concat(c.head, c.rest), c.want)
	}
}

// P5.3: Decode of Encode is the packet; what is decoded is encoded as the same bytes; one byte less, or more, is refused.
func TestDecodeOfEncode(t *testing.T) {
	for _, p := range somePackets() {
		b, e := Encode(p)
		if e != api.OK {
			t.Fatalf("Encode(%+v) = %x, %d", p, b, e)
		}
		got, e := Decode(b)
		if !same(got, p) || e != api.OK {
			t.Fatalf("Decode of Encode(%+v) = %+v, %d", p, got, e)
		}
		if again, e := Encode(got); !bytes.Equal(again, b) || e != api.OK {
			t.Fatalf("Encode of Decode(%x) = %x, %d", b, again, e)
		}
		wantNone(t, b[:len(b)-1], api.ErrForm)
		wantNone(t, b[1:], api.ErrForm)
		for _, more := range []byte{0, 1, 2, 255} {
			wantNone(t, append(bytes.Clone(b), more), api.ErrForm)
		}
	}
}

// P5.3: of all bytes that are near to a packet, those that are decoded are encoded as the same.
func TestEncodeOfDecode(t *testing.T) {
	count := 0
	for _, start := range []string{whole, "\x01\x02\x00\x00" + plainBytes, "\x02\x02\x00\x00" + plainBytes + plainBytes} {
		for at := range len(start) {
			for to := range 256 {
				b := withByte([]byte(start), at, byte(to))
				p, e := Decode(b)
				if e != api.OK {
					continue
				}
				count++
				if again, e := Encode(p); !bytes.Equal(again, b) || e != api.OK {
					t.Fatalf("Encode of Decode(%x) = %x, %d", b, again, e)
				}
			}
		}
	}
	if count < 1000 {
		t.Errorf("only %d of them are packets", count)
	}
}

// R3: what is answered is the caller's own: later changes to either change nothing of the other.
func TestNothingShared(t *testing.T) {
	b := append([]byte{2, 2, 0, 0}, bytes.Repeat([]byte(plainBytes), 3)...)
	before := bytes.Clone(b)
	want := api.RipPacket{Command: 2, Entries: []api.RipEntry{plain(), plain(), plain()}}
	p, _ := Decode(b)
	other, _ := Decode(b)
	for i := range b {
		b[i] = 9
	}
	if !same(p, want) || !same(other, want) {
		t.Errorf("the bytes were changed, and so was the packet: %+v", p)
	}
	copy(b, before)
	p.Entries[1] = api.RipEntry{}
	if !bytes.Equal(b, before) || !same(other, want) {
		t.Errorf("the packet was changed, and so were the bytes, or another packet: %x, %+v", b, other)
	}

	first, _ := Encode(other)
	second, _ := Encode(other)
	first[0], first[10] = 9, 9
	other.Entries[0] = api.RipEntry{}
	if !bytes.Equal(second, before) {
		t.Errorf("other bytes, or the packet, were changed, and so were these: %x", second)
	}
	third, _ := Encode(api.RipPacket{Command: 1, Whole: true})
	clear(third)
	if fourth, _ := Encode(api.RipPacket{Command: 1, Whole: true}); string(fourth) != whole {
		t.Errorf("the Whole one is another one now: %x", fourth)
	}
}

// R3: entries in memory behind those that are handed in stay as they were.
func TestEncodeBehind(t *testing.T) {
	long := someEntries(10)
	before := slices.Clone(long)
	for n := range len(long) {
		p := api.RipPacket{Command: 2, Entries: long[:n]}
		want, _ := slowEncode(p)
		if got, e := Encode(p); !bytes.Equal(got, want) || e != api.OK || !slices.Equal(long, before) {
			t.Errorf("Encode(%+v) = %x, %d, want %x", p, got, e, want)
		}
	}
}

// R5: nothing hangs on what was asked before.
func TestAskedTwice(t *testing.T) {
	for range 3 {
		for _, p := range somePackets() {
			checkEncode(t, p)
		}
		wantRefused(t, api.RipPacket{}, api.ErrArg)
		wantNone(t, []byte{1, 2, 0, 0, 0}, api.ErrForm)
		wantNone(t, append([]byte{1, 2, 0, 0}, make([]byte, 520)...), api.ErrLong)
		checkDecode(t, []byte(whole))
	}
}

// The chapter's examples.
func TestExamples(t *testing.T) {
	want := append(append([]byte{1, 2, 0, 0}, make([]byte, 16)...), 0, 0, 0, 16)
	p := api.RipPacket{Command: 1, Whole: true}
	if got, e := Encode(p); !bytes.Equal(got, want) || e != api.OK {
		t.Errorf("Encode(%+v) = %v, %d, want %v", p, got, e, want)
	}
	if got, e := Decode(want); !same(got, p) || e != api.OK {
		t.Errorf("Decode(%v) = %+v, %d, want %+v", want, got, e, p)
	}
}

// P1, R1: no call panics, at any argument, and all keep to their promises.
func FuzzCalls(f *testing.F) {
	f.Add([]byte(whole), 1, true, uint8(0), uint32(0), 0, uint16(0), uint32(0), 0)
	f.Add([]byte("\x02\x02\x00\x00"+plainBytes+plainBytes), 2, false, uint8(2), uint32(0x15263740), 26, uint16(0xa1b2), uint32(0xc3d4e5f6), 7)
	f.Add([]byte{}, math.MinInt, true, uint8(26), uint32(1), math.MinInt, uint16(65535), uint32(math.MaxUint32), math.MaxInt)
	f.Add(append([]byte{1, 2, 0, 0}, make([]byte, 520)...), math.MaxInt, false, uint8(25), uint32(math.MaxUint32), 33, uint16(1), uint32(1), math.MinInt)
	f.Add([]byte{2, 2, 0}, 1, false, uint8(255), uint32(0x0a000001), 8, uint16(2), uint32(3), 17)
	f.Fuzz(func(t *testing.T, b []byte, command int, isWhole bool, n uint8, addr uint32, bits int, tag uint16, next uint32, metric int) {
		checkDecode(t, b)
		if p, e := Decode(b); e == api.OK {
			if again, e := Encode(p); !bytes.Equal(again, b) || e != api.OK {
				t.Errorf("Encode of Decode(%x) = %x, %d", b, again, e)
			}
		}
		entries := someEntries(int(n))
		if n > 0 {
			entries[n/2] = api.RipEntry{Prefix: api.Prefix{Addr: addr, Len: bits}, Tag: tag, Next: next, Metric: metric}
		}
		p := api.RipPacket{Command: command, Whole: isWhole, Entries: entries}
		checkEncode(t, p)
		if b, e := Encode(p); e == api.OK {
			if got, e := Decode(b); !same(got, p) || e != api.OK {
				t.Errorf("Decode of Encode(%+v) = %+v, %d", p, got, e)
			}
		}
	})
}
