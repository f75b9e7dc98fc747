package dualpkt

import (
	"bytes"
	"encoding/binary"
	"math"
	"net"
	"slices"
	"testing"

	"octroi/api"
)

// The limits, by hand.
const (
	most  = 40
	least = 16
	size  = 20
)

// wrongCodes are numbers that no Code may be, some of which have the low byte of one that may.
var wrongCodes = []int{-1, 4, 5, 255, 256, 257, 258, 259, 260, 1<<16 + 1, 1 << 32, 1<<32 + 1, 1<<32 + 3, -2, -253, -255, -256, math.MinInt, math.MinInt + 1, math.MinInt + 3, math.MaxInt, math.MaxInt - 1}

// wrongPrefixes are prefixes that may not be, by their Len or by bits behind it.
var wrongPrefixes = []api.Prefix{
	{Addr: 0, Len: -1},
	{Addr: 0, Len: -8},
	{Addr: 0, Len: 33},
	{Addr: 0x0a000000, Len: 40},
	{Addr: 0, Len: 256},
	{Addr: 0x0a000000, Len: 264},
	{Addr: 0x0a000000, Len: -248},
	{Addr: 0x0a000000, Len: 1<<32 + 8},
	{Addr: 0, Len: math.MinInt},
	{Addr: 0x0a000000, Len: math.MinInt + 8},
	{Addr: math.MaxUint32, Len: math.MaxInt},
	{Addr: 0x0a000001, Len: 8},
	{Addr: 0x0a800000, Len: 8},
	{Addr: 1, Len: 0},
	{Addr: 0x80000000, Len: 0},
	{Addr: 0x40000000, Len: 1},
	{Addr: 0xc0000000, Len: 1},
	{Addr: 1, Len: 31},
	{Addr: math.MaxUint32, Len: 31},
}

// goodPrefixes are those that may be at the edges of Len.
var goodPrefixes = []api.Prefix{
	{},
	{Addr: 0, Len: 1},
	{Addr: 0x80000000, Len: 1},
	{Addr: 0, Len: 8},
	{Addr: 0xff000000, Len: 8},
	{Addr: 0x0a000000, Len: 8},
	{Addr: 0, Len: 31},
	{Addr: 0xfffffffe, Len: 31},
	{Addr: 0, Len: 32},
	{Addr: 1, Len: 32},
	{Addr: math.MaxUint32, Len: 32},
}

// goodVectors are those that may be at the edges of each number, and the one that is all noughts.
var goodVectors = []api.Vector{
	{},
	{Band: 1},
	{Band: 1, Delay: 1},
	{Band: 1, Hops: 1},
	{Band: 2, Delay: 1 << 24, Hops: 100},
	{Band: 10000000},
	{Band: 10000000, Delay: 1 << 24},
	{Band: 10000000, Hops: 100},
	{Band: 10000000, Delay: 1 << 24, Hops: 100},
	{Band: 9999999, Delay: 1<<24 - 1, Hops: 99},
	{Band: 1, Delay: 1 << 24, Hops: 100},
	{Band: 256, Delay: 256, Hops: 64},
}

// wrongVectors are those that may not be, by each of their numbers, beyond them both ways; some have the low bytes of one that may.
var wrongVectors = []api.Vector{
	{Band: 0, Delay: 10, Hops: 1},
	{Band: 0, Delay: 1},
	{Band: 0, Delay: 1 << 24},
	{Band: 0, Delay: 1 << 32},
	{Band: 0, Hops: 1},
	{Band: 0, Hops: 100},
	{Band: 0, Hops: 256},
	{Band: -1, Delay: 10, Hops: 1},
	{Band: -1},
	{Band: 10000001, Delay: 10, Hops: 1},
	{Band: 10000001},
	{Band: 1 << 24, Delay: 10, Hops: 1},
	{Band: 1 << 31, Delay: 10, Hops: 1},
	{Band: 1 << 32},
	{Band: 1<<32 + 1000, Delay: 10, Hops: 1},
	{Band: -1<<32 + 1000, Delay: 10, Hops: 1},
	{Band: math.MinInt},
	{Band: math.MaxInt, Delay: 10, Hops: 1},
	{Band: 1000, Delay: -1, Hops: 1},
	{Band: 1000, Delay: 1<<24 + 1, Hops: 1},
	{Band: 1000, Delay: 1<<32 - 1, Hops: 1},
	{Band: 1000, Delay: 1 << 32, Hops: 1},
	{Band: 1000, Delay: 1<<32 + 10, Hops: 1},
	{Band: 1000, Delay: -1<<32 + 10, Hops: 1},
	{Band: 1000, Delay: math.MinInt, Hops: 1},
	{Band: 1000, Delay: math.MaxInt, Hops: 1},
	{Band: 1000, Delay: 10, Hops: -1},
	{Band: 1000, Delay: 10, Hops: 101},
	{Band: 1000, Delay: 10, Hops: 255},
	{Band: 1000, Delay: 10, Hops: 256},
	{Band: 1000, Delay: 10, Hops: 257},
	{Band: 1000, Delay: 10, Hops: 1<<32 + 1},
	{Band: 1000, Delay: 10, Hops: -255},
	{Band: 1000, Delay: 10, Hops: math.MinInt},
	{Band: 1000, Delay: 10, Hops: math.MinInt + 1},
	{Band: 1000, Delay: 10, Hops: math.MaxInt},
	{Band: -1, Delay: -1, Hops: -1},
	{Band: math.MaxInt, Delay: math.MaxInt, Hops: math.MaxInt},
}

// plain is an entry of which all bytes differ that may; plainBytes are its bytes, by hand.
func plain() api.DualEntry {
	return api.DualEntry{Prefix: api.Prefix{Addr: 0x15263740, Len: 26}, Vector: api.Vector{Band: 0x00123456, Delay: 0x00abcdef, Hops: 7}, Tag: 0xa1b2}
}

const plainBytes = "\x15\x26\x37\x40\x1a\x07\xa1\xb2\x00\x12\x34\x56\x00\xab\xcd\xef\x00\x00\x00\x00"

// byHand are packets and their bytes.
var byHand = []struct {
	p api.DualPacket
	b string
}{
	{api.DualPacket{}, "\x02\x00\xfd\xff\x00\x00\x00\x00\x00\x00\x00\x00\x00\x00\x00\x00"},
	{api.DualPacket{Init: true}, "\x02\x00\xfc\xff\x01\x00\x00\x00\x00\x00\x00\x00\x00\x00\x00\x00"},
	{api.DualPacket{Entries: []api.DualEntry{}}, "\x02\x00\xfd\xff\x00\x00\x00\x00\x00\x00\x00\x00\x00\x00\x00\x00"},
	// the checksum is two noughts
	{api.DualPacket{Seq: 0xfdff}, "\x02\x00\x00\x00\x00\x00\x00\x00\x00\x00\xfd\xff\x00\x00\x00\x00"},
	{api.DualPacket{Code: api.DUpdate}, "\x02\x01\xfd\xfe\x00\x00\x00\x00\x00\x00\x00\x00\x00\x00\x00\x00"},
	{api.DualPacket{Code: api.DQuery}, "\x02\x02\xfd\xfd\x00\x00\x00\x00\x00\x00\x00\x00\x00\x00\x00\x00"},
	{api.DualPacket{Code: api.DReply}, "\x02\x03\xfd\xfc\x00\x00\x00\x00\x00\x00\x00\x00\x00\x00\x00\x00"},
	{
		api.DualPacket{Code: api.DUpdate, Init: true, Seq: 0x01234567, Ack: 0x89abcdef, Entries: []api.DualEntry{plain()}},
		"\x02\x01\x53\xb6\x01\x00\x00\x00\x01\x23\x45\x67\x89\xab\xcd\xef" + plainBytes,
	},
	{
		api.DualPacket{Code: api.DQuery, Seq: 0x01234567, Ack: 0x89abcdef, Entries: []api.DualEntry{plain(), plain()}},
		"\x02\x02\x49\x92\x00\x00\x00\x00\x01\x23\x45\x67\x89\xab\xcd\xef" + plainBytes + plainBytes,
	},
	{
		api.DualPacket{Code: api.DReply, Init: true, Seq: math.MaxUint32, Ack: math.MaxUint32, Entries: []api.DualEntry{
			{Prefix: api.Prefix{Addr: math.MaxUint32, Len: 32}, Vector: api.Vector{Band: 10000000, Delay: 1 << 24, Hops: 100}, Tag: 65535},
		}},
		"\x02\x03\x44\x80\x01\x00\x00\x00\xff\xff\xff\xff\xff\xff\xff\xff" +
			"\xff\xff\xff\xff\x20\x64\xff\xff\x00\x98\x96\x80\x01\x00\x00\x00\x00\x00\x00\x00",
	},
	{
		api.DualPacket{Code: api.DUpdate, Entries: make([]api.DualEntry, 1)},
		"\x02\x01\xfd\xfe\x00\x00\x00\x00\x00\x00\x00\x00\x00\x00\x00\x00" +
			"\x00\x00\x00\x00\x00\x00\x00\x00\x00\x00\x00\x00\x00\x00\x00\x00\x00\x00\x00\x00",
	},
	{
		api.DualPacket{Code: api.DUpdate, Entries: []api.DualEntry{{Vector: api.Vector{Band: 1}}}},
		"\x02\x01\xfd\xfd\x00\x00\x00\x00\x00\x00\x00\x00\x00\x00\x00\x00" +
			"\x00\x00\x00\x00\x00\x00\x00\x00\x00\x00\x00\x01\x00\x00\x00\x00\x00\x00\x00\x00",
	},
}

// someEntries are n entries that may be, no two of them the same; each fifth has a vector of noughts.
func someEntries(n int) []api.DualEntry {
	var out []api.DualEntry
	seed := uint32(n) + 3
	for i := range n {
		seed = seed*1664525 + 1013904223
		bits := (i*7 + n) % 33
		mask := binary.BigEndian.Uint32(net.CIDRMask(bits, 32))
		entry := api.DualEntry{
			Prefix: api.Prefix{Addr: (seed ^ seed>>13) & mask, Len: bits},
			Vector: api.Vector{Band: 1 + int(seed%10000000), Delay: int(seed>>5) % (1<<24 + 1), Hops: (i*3 + n) % 101},
			Tag:    uint16(seed>>8) ^ uint16(i),
		}
		if i%5 == 4 {
			entry.Vector = api.Vector{}
		}
		out = append(out, entry)
	}
	return out
}

// somePackets are packets that may be: of each Code, with each number of entries that it may have.
func somePackets() []api.DualPacket {
	out := []api.DualPacket{{}, {Init: true}, {Seq: 0x01020304, Ack: 0x05060708}, {Seq: 0xfdff}, {Seq: math.MaxUint32, Ack: math.MaxUint32, Init: true}}
	for code := api.DUpdate; code <= api.DReply; code++ {
		for n := range most + 1 {
			out = append(out, api.DualPacket{Code: code, Init: n%2 == 1, Seq: uint32(n) * 2654435761, Ack: uint32(n+code) * 0x9e3779b1, Entries: someEntries(n)})
		}
		out = append(out, api.DualPacket{Code: code, Entries: make([]api.DualEntry, most)})
	}
	for _, c := range byHand {
		out = append(out, c.p)
	}
	return out
}

// slowMayEntry is the chapter's MAY BE, of an entry, with masks of the library.
func slowMayEntry(entry api.DualEntry) bool {
	if entry.Prefix.Len < 0 || entry.Prefix.Len > 32 {
		return false
	}
	mask := binary.BigEndian.Uint32(net.CIDRMask(entry.Prefix.Len, 32))
	if entry.Prefix.Addr&^mask != 0 {
		return false
	}
	band, delay, hops := entry.Vector.Band, entry.Vector.Delay, entry.Vector.Hops
	return band == 0 && delay == 0 && hops == 0 ||
		band >= 1 && band <= 10000000 && delay >= 0 && delay <= 16777216 && hops >= 0 && hops <= 100
}

// slowSum is the checksum of bytes, by the rest of a division instead of adding again what goes over.
func slowSum(b []byte) uint16 {
	var total uint64
	for at := 0; at+1 < len(b); at += 2 {
		if at != 2 {
			total += uint64(binary.BigEndian.Uint16(b[at:]))
		}
	}
	if len(b)%2 == 1 {
		total += uint64(b[len(b)-1]) << 8
	}
	if total == 0 {
		return 65535
	}
	return uint16(65534 - (total-1)%65535)
}

// summed is a copy of some bytes with the checksum that fits.
func summed(b []byte) []byte {
	out := bytes.Clone(b)
	if len(out) >= 4 {
		binary.BigEndian.PutUint16(out[2:], slowSum(out))
	}
	return out
}

// slowEncode is P7.1, with numbers and masks of the library.
func slowEncode(p api.DualPacket) ([]byte, api.Errno) {
	if len(p.Entries) > most {
		return nil, api.ErrLong
	}
	if p.Code < 0 || p.Code > 3 || p.Code == 0 && len(p.Entries) != 0 || slices.ContainsFunc(p.Entries, func(entry api.DualEntry) bool { return !slowMayEntry(entry) }) {
		return nil, api.ErrArg
	}
	out := []byte{2, byte(p.Code), 0, 0, 0, 0, 0, 0}
	if p.Init {
		out[4]++
	}
	out = binary.BigEndian.AppendUint32(out, p.Seq)
	out = binary.BigEndian.AppendUint32(out, p.Ack)
	for _, entry := range p.Entries {
		out = binary.BigEndian.AppendUint32(out, entry.Prefix.Addr)
		out = append(out, byte(entry.Prefix.Len), byte(entry.Vector.Hops))
		out = binary.BigEndian.AppendUint16(out, entry.Tag)
		out = binary.BigEndian.AppendUint32(out, uint32(entry.Vector.Band))
		out = binary.BigEndian.AppendUint32(out, uint32(entry.Vector.Delay))
		out = append(out, 0, 0, 0, 0)
	}
	return summed(out), api.OK
}

// slowDecode is P7.2, with numbers and masks of the library.
func slowDecode(b []byte) (api.DualPacket, api.Errno) {
	if len(b) < 16 || len(b)%20 != 16 || b[0] != 2 {
		return api.DualPacket{}, api.ErrForm
	}
	if binary.BigEndian.Uint16(b[2:]) != slowSum(b) {
		return api.DualPacket{}, api.ErrSum
	}
	if len(b) > 816 {
		return api.DualPacket{}, api.ErrLong
	}
	if b[1] > 3 || b[4] > 1 || string(b[5:8]) != "\x00\x00\x00" || b[1] == 0 && len(b) > 16 {
		return api.DualPacket{}, api.ErrForm
	}
	out := api.DualPacket{Code: int(b[1]), Init: b[4] == 1, Seq: binary.BigEndian.Uint32(b[8:]), Ack: binary.BigEndian.Uint32(b[12:])}
	for at := 16; at < len(b); at += 20 {
		entry := api.DualEntry{
			Prefix: api.Prefix{Addr: binary.BigEndian.Uint32(b[at:]), Len: int(b[at+4])},
			Vector: api.Vector{Band: int(binary.BigEndian.Uint32(b[at+8:])), Delay: int(binary.BigEndian.Uint32(b[at+12:])), Hops: int(b[at+5])},
			Tag:    binary.BigEndian.Uint16(b[at+6:]),
		}
		if binary.BigEndian.Uint32(b[at+16:]) != 0 || !slowMayEntry(entry) {
			return api.DualPacket{}, api.ErrForm
		}
		out.Entries = append(out.Entries, entry)
	}
	return out, api.OK
}

// same tells whether two packets are the same; no entries may be nil or empty (R6).
func same(p, q api.DualPacket) bool {
	return p.Code == q.Code && p.Init == q.Init && p.Seq == q.Seq && p.Ack == q.Ack && slices.Equal(p.Entries, q.Entries)
}

// copied is a packet with entries of its own.
func copied(p api.DualPacket) api.DualPacket {
	p.Entries = slices.Clone(p.Entries)
	return p
}

// checkEncode holds Encode against slowEncode, and what was handed in against what it was.
func checkEncode(t *testing.T, p api.DualPacket) {
	t.Helper()
	before := copied(p)
	want, wantErr := slowEncode(p)
	got, e := Encode(p)
	if !bytes.Equal(got, want) || e != wantErr {
		t.Fatalf("Encode(%+v) = %x, %d, want %x, %d", p, got, e, want, wantErr)
	}
	if !same(p, before) {
		t.Fatalf("Encode(%+v) left %+v", before, p)
	}
}

// wantRefused asks for an error of Encode, with which there are no bytes.
func wantRefused(t *testing.T, p api.DualPacket, want api.Errno) {
	t.Helper()
	if got, e := Encode(p); len(got) != 0 || e != want {
		t.Errorf("Encode(%+v) = %x, %d, want none and %d", p, got, e, want)
	}
	checkEncode(t, p)
}

// checkDecode holds Decode against slowDecode, and what was handed in against what it was.
func checkDecode(t *testing.T, b []byte) {
	t.Helper()
	before := bytes.Clone(b)
	want, wantErr := slowDecode(b)
	got, e := Decode(b)
	if !same(got, want) || e != wantErr {
		t.Fatalf("Decode(%x) = %+v, %d, want %+v, %d", b, got, e, want, wantErr)
	}
	if !bytes.Equal(b, before) {
		t.Fatalf("Decode(%x) left %x", before, b)
	}
}

// wantNone asks for an error of Decode, with which the packet is noughts.
func wantNone(t *testing.T, b []byte, want api.Errno) {
	t.Helper()
	if got, e := Decode(b); !same(got, api.DualPacket{}) || e != want {
		t.Errorf("Decode(%x) = %+v, %d, want noughts and %d", b, got, e, want)
	}
	checkDecode(t, b)
}

// wantPacket asks for a packet of Decode.
func wantPacket(t *testing.T, b []byte, want api.DualPacket) {
	t.Helper()
	if got, e := Decode(b); !same(got, want) || e != api.OK {
		t.Errorf("Decode(%x) = %+v, %d, want %+v", b, got, e, want)
	}
	checkDecode(t, b)
}

// withByte is a copy of b with another byte at a place.
func withByte(b []byte, at int, to byte) []byte {
	out := bytes.Clone(b)
	out[at] = to
	return out
}

// of is a packet of one entry.
func of(entry api.DualEntry) api.DualPacket {
	return api.DualPacket{Code: api.DUpdate, Entries: []api.DualEntry{entry}}
}

// update is the bytes of an update with some bytes as its entries, with the checksum that fits.
func update(entries string) []byte {
	return summed([]byte("\x02\x01\x00\x00\x00\x00\x00\x00\x01\x23\x45\x67\x89\xab\xcd\xef" + entries))
}

// repeated is the bytes of an update with n times the plain entry.
func repeated(n int) []byte {
	return update(string(bytes.Repeat([]byte(plainBytes), n)))
}

// P7.1: the bytes, by hand.
func TestEncode(t *testing.T) {
	for _, c := range byHand {
		if got, e := Encode(c.p); string(got) != c.b || e != api.OK {
			t.Errorf("Encode(%+v) = %x, %d, want %x", c.p, got, e, c.b)
		}
		checkEncode(t, c.p)
	}
}

// P7.1: each Code, with and without Init, with and without an entry.
func TestEncodeCode(t *testing.T) {
	for code := range 4 {
		for _, isInit := range []bool{false, true} {
			p := api.DualPacket{Code: code, Init: isInit, Seq: 5, Ack: 6}
			b, e := Encode(p)
			if e != api.OK || len(b) != least || int(b[1]) != code || b[4] == 1 != isInit || b[4] > 1 {
				t.Errorf("Encode(%+v) = %x, %d", p, b, e)
			}
			checkEncode(t, p)
			p.Entries = []api.DualEntry{plain()}
			checkEncode(t, p)
		}
	}
}

// P7.1: a Code that is none, also one whose low byte is.
func TestEncodeWrongCode(t *testing.T) {
	for _, code := range wrongCodes {
		for _, isInit := range []bool{false, true} {
			wantRefused(t, api.DualPacket{Code: code, Init: isInit}, api.ErrArg)
			wantRefused(t, api.DualPacket{Code: code, Init: isInit, Seq: 5, Ack: 6, Entries: []api.DualEntry{plain()}}, api.ErrArg)
		}
	}
	for code := -300; code < 600; code++ {
		checkEncode(t, api.DualPacket{Code: code})
		checkEncode(t, api.DualPacket{Code: code, Entries: []api.DualEntry{plain()}})
	}
}

// P7.1: a DHello has no entry.
func TestEncodeHello(t *testing.T) {
	for _, isInit := range []bool{false, true} {
		for _, n := range []int{1, 2, most} {
			wantRefused(t, api.DualPacket{Init: isInit, Entries: someEntries(n)}, api.ErrArg)
			wantRefused(t, api.DualPacket{Init: isInit, Entries: make([]api.DualEntry, n)}, api.ErrArg)
		}
		wantRefused(t, api.DualPacket{Init: isInit, Seq: 7, Ack: 8, Entries: []api.DualEntry{plain()}}, api.ErrArg)
	}
}

// P7.1, R2: as many entries as there may be, and more: ErrLong goes ahead of ErrArg.
func TestEncodeLong(t *testing.T) {
	for n := range most + 1 {
		for code := api.DUpdate; code <= api.DReply; code++ {
			p := api.DualPacket{Code: code, Entries: someEntries(n)}
			if got, e := Encode(p); len(got) != 16+20*n || e != api.OK {
				t.Errorf("Encode of %d entries: %d bytes, %d", n, len(got), e)
			}
			checkEncode(t, p)
		}
	}
	for _, n := range []int{most + 1, most + 2, 2 * most, 256, 296, 1000} {
		good := someEntries(n)
		for code := range 4 {
			wantRefused(t, api.DualPacket{Code: code, Entries: good}, api.ErrLong)
			wantRefused(t, api.DualPacket{Code: code, Entries: make([]api.DualEntry, n)}, api.ErrLong)
		}
		wantRefused(t, api.DualPacket{Code: 4, Entries: good}, api.ErrLong)
		wantRefused(t, api.DualPacket{Code: -1, Entries: good}, api.ErrLong)
		for _, change := range []func(*api.DualEntry){
			func(entry *api.DualEntry) { entry.Prefix.Len = 33 },
			func(entry *api.DualEntry) { entry.Vector.Hops = 101 },
			func(entry *api.DualEntry) { entry.Vector.Band = -1 },
		} {
			for _, at := range []int{0, most, n - 1} {
				bad := slices.Clone(good)
				change(&bad[at])
				wantRefused(t, api.DualPacket{Code: api.DQuery, Entries: bad}, api.ErrLong)
			}
		}
	}
}

// P7.1: each byte of Seq, Ack, an address, a Tag, Band and Delay has its own place.
func TestEncodePlaces(t *testing.T) {
	for i := range 4 {
		n := uint32(0xa5) << (24 - 8*i)
		for _, c := range []struct {
			p  api.DualPacket
			at int
		}{
			{api.DualPacket{Seq: n}, 8},
			{api.DualPacket{Ack: n}, 12},
			{of(api.DualEntry{Prefix: api.Prefix{Addr: n, Len: 32}}), 16},
		} {
			got, e := Encode(c.p)
			if e != api.OK || got[c.at+i] != 0xa5 {
				t.Errorf("Encode(%+v) = %x, %d, want a5 at %d", c.p, got, e, c.at+i)
			}
			checkEncode(t, c.p)
		}
	}
	for i := range 2 {
		got, e := Encode(of(api.DualEntry{Tag: 0xa5 << (8 - 8*i)}))
		if e != api.OK || got[22+i] != 0xa5 || got[23-i] != 0 {
			t.Errorf("Encode of a Tag = %x, %d, want a5 at %d", got, e, 22+i)
		}
	}
	for i := 1; i < 4; i++ {
		n := 0x85 << (24 - 8*i)
		got, e := Encode(of(api.DualEntry{Vector: api.Vector{Band: n, Delay: 1 << 24, Hops: 0x55}}))
		if e != api.OK || got[24+i] != 0x85 || got[28] != 1 || got[21] != 0x55 {
			t.Errorf("Encode of the Band %d = %x, %d", n, got, e)
		}
		got, e = Encode(of(api.DualEntry{Vector: api.Vector{Band: 1, Delay: n}}))
		if e != api.OK || got[28+i] != 0x85 || got[27] != 1 {
			t.Errorf("Encode of the Delay %d = %x, %d", n, got, e)
		}
	}
}

// P7.1: each number at 0 and at its greatest, with all others as they are.
func TestEncodeEdges(t *testing.T) {
	for _, seq := range []uint32{0, 1, 0x01234567, math.MaxUint32 - 1, math.MaxUint32} {
		for _, ack := range []uint32{0, 1, 0x89abcdef, math.MaxUint32 - 1, math.MaxUint32} {
			for code := range 4 {
				checkEncode(t, api.DualPacket{Code: code, Init: true, Seq: seq, Ack: ack})
			}
		}
	}
	for _, pre := range goodPrefixes {
		for _, vector := range goodVectors {
			for _, tag := range []uint16{0, 1, 256, 0xa1b2, math.MaxUint16} {
				p := of(api.DualEntry{Prefix: pre, Vector: vector, Tag: tag})
				if got, e := Encode(p); len(got) != least+size || e != api.OK {
					t.Errorf("Encode(%+v) = %x, %d", p, got, e)
				}
				checkEncode(t, p)
			}
		}
	}
}

// P7.1: a prefix that may not be, at any place among good entries, also with a vector of noughts.
func TestEncodePrefix(t *testing.T) {
	for _, wrong := range wrongPrefixes {
		entry := plain()
		entry.Prefix = wrong
		wantRefused(t, of(entry), api.ErrArg)
		wantRefused(t, of(api.DualEntry{Prefix: wrong}), api.ErrArg)
		for at := range most {
			entries := someEntries(most)
			entries[at].Prefix = wrong
			wantRefused(t, api.DualPacket{Code: api.DReply, Entries: entries}, api.ErrArg)
		}
	}
}

// P7.1: each Len with each one bit of an address.
func TestEncodeMasks(t *testing.T) {
	for bits := -3; bits < 40; bits++ {
		for i := range 33 {
			entry := plain()
			entry.Prefix = api.Prefix{Addr: uint32(1 << i), Len: bits}
			checkEncode(t, of(entry))
		}
	}
}

// P7.1: a vector that may not be, at any place among good entries.
func TestEncodeVector(t *testing.T) {
	for _, wrong := range wrongVectors {
		entry := plain()
		entry.Vector = wrong
		wantRefused(t, of(entry), api.ErrArg)
		wantRefused(t, of(api.DualEntry{Vector: wrong}), api.ErrArg)
		for at := range most {
			entries := someEntries(most)
			entries[at].Vector = wrong
			wantRefused(t, api.DualPacket{Code: api.DQuery, Entries: entries}, api.ErrArg)
		}
	}
	for _, band := range []int{-1, 0, 1, 2, 9999999, 10000000, 10000001} {
		for _, delay := range []int{-1, 0, 1, 1<<24 - 1, 1 << 24, 1<<24 + 1} {
			for hops := -2; hops < 300; hops++ {
				checkEncode(t, of(api.DualEntry{Vector: api.Vector{Band: band, Delay: delay, Hops: hops}, Tag: 9}))
			}
		}
	}
}

// P7.1: the checksum of what is encoded fits, and is the one of noughts in its place.
func TestEncodeSum(t *testing.T) {
	for _, p := range somePackets() {
		b, e := Encode(p)
		if e != api.OK || binary.BigEndian.Uint16(b[2:]) != slowSum(b) {
			t.Errorf("Encode(%+v) = %x, %d, want the checksum %x", p, b, e, slowSum(b))
		}
	}
	for seq := uint32(0); seq < 1<<17; seq += 7 {
		checkEncode(t, api.DualPacket{Code: api.DReply, Seq: seq, Ack: seq * 2654435761})
	}
}

// P7.2: packets, by hand.
func TestDecode(t *testing.T) {
	for _, c := range byHand {
		wantPacket(t, []byte(c.b), c.p)
	}
}

// P7.2: no bytes, nil, fewer than 16, and each other length, with the checksum that fits and another one.
func TestDecodeLength(t *testing.T) {
	wantNone(t, nil, api.ErrForm)
	wantNone(t, []byte{}, api.ErrForm)
	long := append([]byte{2, 1, 0, 0}, make([]byte, 1700)...)
	for n := range len(long) {
		b := summed(long[:n])
		switch {
		case n < 16 || (n-16)%20 != 0:
			wantNone(t, b, api.ErrForm)
		case n > 816:
			wantNone(t, b, api.ErrLong)
		default:
			wantPacket(t, b, api.DualPacket{Code: api.DUpdate, Entries: make([]api.DualEntry, (n-16)/20)})
		}
		checkDecode(t, long[:n])
	}
	for _, n := range []int{15, 17, 35, 37} {
		wantNone(t, summed(repeated(2)[:n]), api.ErrForm)
		wantNone(t, repeated(2)[:n], api.ErrForm)
	}
}

// P7.2, R3: what is in memory behind the bytes that are handed in plays no part, and stays as it was.
func TestDecodeBehind(t *testing.T) {
	long := repeated(3)
	for _, n := range []int{0, 1, 15, 16, 17, 35, 36, 37, 56, 75, 76} {
		sum := slowSum(long[:n])
		if n >= 4 {
			binary.BigEndian.PutUint16(long[2:], sum)
		}
		before := bytes.Clone(long)
		want, wantErr := slowDecode(bytes.Clone(long[:n]))
		if got, e := Decode(long[:n]); !same(got, want) || e != wantErr {
			t.Errorf("Decode(%x) = %+v, %d, want %+v, %d", long[:n], got, e, want, wantErr)
		}
		if !bytes.Equal(long, before) {
			t.Fatalf("Decode(%x) left %x", before, long)
		}
	}
}

// P7.2: another first byte, with the checksum that fits and with another one, with none, some and too many entries.
func TestDecodeFirst(t *testing.T) {
	for _, n := range []int{0, 1, most, most + 1} {
		for to := range 256 {
			if to == 2 {
				continue
			}
			other := withByte(repeated(n), 0, byte(to))
			wantNone(t, other, api.ErrForm)
			wantNone(t, summed(other), api.ErrForm)
		}
	}
}

// P7.2: another checksum, by either of its bytes and by both.
func TestDecodeSum(t *testing.T) {
	for _, p := range somePackets() {
		b, _ := slowEncode(p)
		for flip := 1; flip < 256; flip++ {
			wantNone(t, withByte(b, 2, b[2]^byte(flip)), api.ErrSum)
			wantNone(t, withByte(b, 3, b[3]^byte(flip)), api.ErrSum)
		}
		swapped := bytes.Clone(b)
		swapped[2], swapped[3] = b[3], b[2]
		if b[2] != b[3] {
			wantNone(t, swapped, api.ErrSum)
		}
	}
	b := repeated(2)
	want := binary.BigEndian.Uint16(b[2:])
	for sum := range 1 << 16 {
		if uint16(sum) != want {
			binary.BigEndian.PutUint16(b[2:], uint16(sum))
			if got, e := Decode(b); !same(got, api.DualPacket{}) || e != api.ErrSum {
				t.Fatalf("Decode(%x) = %+v, %d", b, got, e)
			}
		}
	}
	// two noughts and ff ff add up to the same, but only the first is the checksum
	wantNone(t, []byte("\x02\x00\xff\xff\x00\x00\x00\x00\x00\x00\xfd\xff\x00\x00\x00\x00"), api.ErrSum)
}

// P7.2: 40 entries, and more.
func TestDecodeLong(t *testing.T) {
	for n := range most + 1 {
		want := api.DualPacket{Code: api.DUpdate, Seq: 0x01234567, Ack: 0x89abcdef, Entries: slices.Repeat([]api.DualEntry{plain()}, n)}
		wantPacket(t, repeated(n), want)
	}
	for _, n := range []int{most + 1, most + 2, 2 * most, 256, 296, 1000} {
		wantNone(t, repeated(n), api.ErrLong)
		wantNone(t, update(string(make([]byte, n*size))), api.ErrLong)
	}
}

// P7.2: each code, and each other byte in its place, with the checksum that fits.
func TestDecodeCode(t *testing.T) {
	for to := range 256 {
		head := summed(withByte(repeated(0), 1, byte(to)))
		entry := summed(withByte(repeated(1), 1, byte(to)))
		if to > 3 {
			wantNone(t, head, api.ErrForm)
			wantNone(t, entry, api.ErrForm)
			continue
		}
		want := api.DualPacket{Code: to, Seq: 0x01234567, Ack: 0x89abcdef}
		wantPacket(t, head, want)
		if to == 0 {
			wantNone(t, entry, api.ErrForm)
			continue
		}
		want.Entries = []api.DualEntry{plain()}
		wantPacket(t, entry, want)
	}
}

// P7.2: a DHello with entries, with the checksum that fits.
func TestDecodeHello(t *testing.T) {
	for _, n := range []int{1, 2, most} {
		wantNone(t, summed(withByte(repeated(n), 1, 0)), api.ErrForm)
		wantNone(t, summed(withByte(update(string(make([]byte, n*size))), 1, 0)), api.ErrForm)
	}
}

// P7.2: each value of the byte of Init, and of the noughts of the head, with the checksum that fits.
func TestDecodeHead(t *testing.T) {
	for code := range 4 {
		b := withByte(repeated(0), 1, byte(code))
		for to := range 256 {
			other := summed(withByte(b, 4, byte(to)))
			if to > 1 {
				wantNone(t, other, api.ErrForm)
			} else {
				wantPacket(t, other, api.DualPacket{Code: code, Init: to == 1, Seq: 0x01234567, Ack: 0x89abcdef})
			}
			for at := 5; at < 8 && to > 0; at++ {
				wantNone(t, summed(withByte(b, at, byte(to))), api.ErrForm)
				wantNone(t, summed(withByte(withByte(b, 4, 1), at, byte(to))), api.ErrForm)
			}
		}
	}
}

// P7.2: each value of the noughts of an entry, at the first, a middle and the last one, with the checksum that fits.
func TestDecodeNoughts(t *testing.T) {
	for _, entry := range []int{0, 7, most - 1} {
		for at := 16; at < size; at++ {
			for to := 1; to < 256; to++ {
				wantNone(t, summed(withByte(repeated(most), least+entry*size+at, byte(to))), api.ErrForm)
				wantNone(t, summed(withByte(update(string(make([]byte, most*size))), least+entry*size+at, byte(to))), api.ErrForm)
			}
		}
	}
}

// wrongEntries are bytes that are no entry, each by one fault.
func wrongEntries() []string {
	var table []string
	// a prefix that may not be
	for _, pre := range []string{"\x00\x00\x00\x00\x21", "\x0a\x00\x00\x00\x28", "\xff\xff\xff\xff\xff", "\x00\x00\x00\x00\x80", "\x0a\x00\x00\x01\x08", "\x0a\x80\x00\x00\x08", "\x00\x00\x00\x01\x00", "\x80\x00\x00\x00\x00", "\x40\x00\x00\x00\x01", "\xff\xff\xff\xff\x1f", "\x15\x26\x37\x40\x19"} {
		table = append(table, pre+plainBytes[5:], pre+string(make([]byte, 15)))
	}
	// too many hops
	for _, hops := range []string{"\x65", "\x80", "\xff"} {
		table = append(table, plainBytes[:5]+hops+plainBytes[6:])
	}
	// a bandwidth that is none
	for _, band := range []string{"\x00\x00\x00\x00", "\x00\x98\x96\x81", "\x00\x98\x97\x00", "\x00\xff\xff\xff", "\x01\x00\x00\x00", "\x01\x12\x34\x56", "\x80\x00\x00\x01", "\xff\xff\xff\xff"} {
		table = append(table, plainBytes[:8]+band+plainBytes[12:])
	}
	// a delay that is none
	for _, delay := range []string{"\x01\x00\x00\x01", "\x01\x00\x01\x00", "\x01\x01\x00\x00", "\x02\x00\x00\x00", "\x80\x00\x00\x00", "\xff\xff\xff\xff"} {
		table = append(table, plainBytes[:12]+delay+plainBytes[16:])
	}
	// no bandwidth, but hops, or a delay
	return append(table,
		plainBytes[:5]+"\x01"+plainBytes[6:8]+string(make([]byte, 12)),
		plainBytes[:5]+"\x00"+plainBytes[6:8]+"\x00\x00\x00\x00\x00\x00\x00\x01\x00\x00\x00\x00",
		plainBytes[:5]+"\x00"+plainBytes[6:8]+"\x00\x00\x00\x00\x01\x00\x00\x00\x00\x00\x00\x00",
		plainBytes[:16]+"\x00\x00\x00\x01",
		plainBytes[:16]+"\x01\x00\x00\x00",
	)
}

// P7.2: bytes that are no entry: alone, ahead of good ones, between them and behind them.
func TestDecodeEntries(t *testing.T) {
	for _, wrong := range wrongEntries() {
		for code := range 4 {
			wantNone(t, summed(withByte(update(wrong), 1, byte(code))), api.ErrForm)
		}
		for at := range most {
			b := repeated(most)
			copy(b[least+size*at:], wrong)
			wantNone(t, summed(b), api.ErrForm)
		}
	}
}

// P7.2: each Len with each one bit of an address; vectors at their edges.
func TestDecodeEntriesEdges(t *testing.T) {
	for bits := range 256 {
		for i := range 33 {
			b := repeated(1)
			binary.BigEndian.PutUint32(b[16:], uint32(1<<i))
			b[20] = byte(bits)
			checkDecode(t, summed(b))
		}
	}
	for _, pre := range goodPrefixes {
		for _, vector := range goodVectors {
			p := of(api.DualEntry{Prefix: pre, Vector: vector, Tag: 0xa1b2})
			b, _ := slowEncode(p)
			wantPacket(t, b, p)
		}
	}
	for hops := range 256 {
		for _, band := range []uint32{0, 1, 10000000, 10000001, math.MaxUint32} {
			for _, delay := range []uint32{0, 1, 1 << 24, 1<<24 + 1, math.MaxUint32} {
				b := repeated(1)
				b[21] = byte(hops)
				binary.BigEndian.PutUint32(b[24:], band)
				binary.BigEndian.PutUint32(b[28:], delay)
				checkDecode(t, summed(b))
			}
		}
	}
}

// fault is one that bytes may have, and the error that tells it; the least rank is named first.
type fault struct {
	name  string
	rank  int
	want  api.Errno
	spoil func(b []byte) []byte
}

// faults are all of P7.2; those that change how many bytes there are stand behind the others, so that these find their places, and the one of the checksum is last.
var faults = []fault{
	{"first byte", 1, api.ErrForm, func(b []byte) []byte { return withByte(b, 0, 3) }},
	{"code", 4, api.ErrForm, func(b []byte) []byte { return withByte(b, 1, 4) }},
	{"hello with entries", 4, api.ErrForm, func(b []byte) []byte { return withByte(b, 1, 0) }},
	{"init", 4, api.ErrForm, func(b []byte) []byte { return withByte(b, 4, 2) }},
	{"nought of the head", 4, api.ErrForm, func(b []byte) []byte { return withByte(b, 6, 9) }},
	{"nought of an entry", 4, api.ErrForm, func(b []byte) []byte { return withByte(b, 34, 9) }},
	{"prefix", 4, api.ErrForm, func(b []byte) []byte { return withByte(b, 20, 33) }},
	{"vector", 4, api.ErrForm, func(b []byte) []byte { return withByte(b, 21, 101) }},
	{"too many", 3, api.ErrLong, func(b []byte) []byte { return append(b, bytes.Repeat([]byte(plainBytes), most)...) }},
	{"too many, none an entry", 3, api.ErrLong, func(b []byte) []byte { return append(b, bytes.Repeat([]byte{9}, most*size)...) }},
	{"a byte more", 1, api.ErrForm, func(b []byte) []byte { return append(b, 0) }},
	{"a byte less", 1, api.ErrForm, func(b []byte) []byte { return b[:len(b)-1] }},
	{"15 bytes", 1, api.ErrForm, func(b []byte) []byte { return b[:15] }},
	{"checksum", 2, api.ErrSum, func(b []byte) []byte { return withByte(b, 3, b[3]^1) }},
}

// P7.2, R2: where two faults are, the one that is named first counts; all but the checksum's own have the checksum that fits.
func TestDecodeTwoFaults(t *testing.T) {
	last := len(faults) - 1
	for i, first := range faults {
		for _, second := range faults[i:] {
			// the same fault twice is one; a byte more and a byte less are none
			if first.name == "a byte more" && second.name == "a byte less" {
				continue
			}
			b := repeated(2)
			if first.rank != 2 {
				b = first.spoil(b)
			}
			if second.rank != 2 && second.name != first.name {
				b = second.spoil(b)
			}
			b = summed(b)
			if second.rank == 2 {
				b = faults[last].spoil(b)
			}
			want := first.want
			if second.rank < first.rank {
				want = second.want
			}
			if got, e := Decode(b); !same(got, api.DualPacket{}) || e != want {
				t.Errorf("%s and %s: %+v, %d, want %d", first.name, second.name, got, e, want)
			}
			checkDecode(t, b)
		}
	}
}

// P7.3: Decode of Encode is the packet; what is decoded is encoded as the same bytes.
func TestDecodeOfEncode(t *testing.T) {
	for _, p := range somePackets() {
		b, e := Encode(p)
		if e != api.OK {
			t.Fatalf("Encode(%+v) = %x, %d", p, b, e)
		}
		got, e := Decode(b)
		if !same(got, p) || e != api.OK {
			t.Fatalf("Decode of Encode(%+v) = %+v, %d", p, got, e)
		}
		if again, e := Encode(got); !bytes.Equal(again, b) || e != api.OK {
			t.Fatalf("Encode of Decode(%x) = %x, %d", b, again, e)
		}
		wantNone(t, b[:len(b)-1], api.ErrForm)
		wantNone(t, append(bytes.Clone(b), 0), api.ErrForm)
	}
}

// P7.3: of all bytes that are near to a packet, with the checksum that fits, those that are decoded are encoded as the same.
func TestEncodeOfDecode(t *testing.T) {
	count := 0
	for _, c := range byHand {
		for at := range len(c.b) {
			for to := range 256 {
				b := summed(withByte([]byte(c.b), at, byte(to)))
				checkDecode(t, b)
				p, e := Decode(b)
				if e != api.OK {
					continue
				}
				count++
				if again, e := Encode(p); !bytes.Equal(again, b) || e != api.OK {
					t.Fatalf("Encode of Decode(%x) = %x, %d", b, again, e)
				}
			}
		}
	}
	if count < 10000 {
		t.Errorf("only %d of them are packets", count)
	}
}

// P7.3: a packet of which one byte, at each place, is another one is refused.
func TestOneByteOff(t *testing.T) {
	for _, c := range byHand {
		for at := range len(c.b) {
			for flip := 1; flip < 256; flip++ {
				want := api.ErrSum
				if at == 0 {
					want = api.ErrForm
				}
				wantNone(t, withByte([]byte(c.b), at, c.b[at]^byte(flip)), want)
			}
		}
	}
	for _, p := range somePackets() {
		b, _ := Encode(p)
		for at := range b {
			for _, flip := range []byte{1, 2, 0x10, 0x80, 0xff} {
				if got, e := Decode(withByte(b, at, b[at]^flip)); e == api.OK || !same(got, api.DualPacket{}) {
					t.Fatalf("Decode of %x with another byte at %d = %+v, %d", b, at, got, e)
				}
			}
		}
	}
}

// R3: what is answered is the caller's own: later changes to either change nothing of the other.
func TestNothingShared(t *testing.T) {
	b := repeated(3)
	before := bytes.Clone(b)
	want := api.DualPacket{Code: api.DUpdate, Seq: 0x01234567, Ack: 0x89abcdef, Entries: []api.DualEntry{plain(), plain(), plain()}}
	p, _ := Decode(b)
	other, _ := Decode(b)
	for i := range b {
		b[i] = 9
	}
	if !same(p, want) || !same(other, want) {
		t.Errorf("the bytes were changed, and so was the packet: %+v", p)
	}
	copy(b, before)
	p.Entries[1] = api.DualEntry{}
	if !bytes.Equal(b, before) || !same(other, want) {
		t.Errorf("the packet was changed, and so were the bytes, or another packet: %x, %+v", b, other)
	}

	first, _ := Encode(other)
	second, _ := Encode(other)
	clear(first)
	other.Entries[0] = api.DualEntry{}
	if !bytes.Equal(second, before) {
		t.Errorf("other bytes, or the packet, were changed, and so were these: %x", second)
	}
}

// R3: entries in memory behind those that are handed in stay as they were.
func TestEncodeBehind(t *testing.T) {
	long := someEntries(10)
	before := slices.Clone(long)
	for n := range len(long) {
		p := api.DualPacket{Code: api.DQuery, Entries: long[:n]}
		want, _ := slowEncode(p)
		if got, e := Encode(p); !bytes.Equal(got, want) || e != api.OK || !slices.Equal(long, before) {
			t.Errorf("Encode(%+v) = %x, %d, want %x", p, got, e, want)
		}
	}
}

// R5: nothing hangs on what was asked before.
func TestAskedTwice(t *testing.T) {
	for range 3 {
		for _, p := range somePackets() {
			checkEncode(t, p)
		}
		wantRefused(t, api.DualPacket{Code: 4}, api.ErrArg)
		wantNone(t, []byte{2, 0, 0}, api.ErrForm)
		wantNone(t, make([]byte, least), api.ErrForm)
		wantNone(t, append([]byte{2, 1, 0, 0}, make([]byte, 12)...), api.ErrSum)
		wantNone(t, repeated(most+1), api.ErrLong)
		checkDecode(t, repeated(1))
	}
}

// The chapter's example.
func TestExamples(t *testing.T) {
	want := append([]byte{2, 0, 0xfd, 0xff}, make([]byte, 12)...)
	p := api.DualPacket{Code: api.DHello, Seq: 0}
	if got, e := Encode(p); !bytes.Equal(got, want) || e != api.OK {
		t.Errorf("Encode(%+v) = %v, %d, want %v", p, got, e, want)
	}
	if got, e := Decode(want); !same(got, p) || e != api.OK {
		t.Errorf("Decode(%v) = %+v, %d, want %+v", want, got, e, p)
	}
}

// P1, R1: no call panics, at any argument, and all keep to their promises.
func FuzzCalls(f *testing.F) {
	f.Add([]byte(byHand[0].b), 0, false, uint32(0), uint32(0), uint8(0), uint32(0), 0, uint16(0), 0, 0, 0)
	f.Add(repeated(2), 1, true, uint32(5), uint32(6), uint8(2), uint32(0x15263740), 26, uint16(0xa1b2), 0x123456, 0xabcdef, 7)
	f.Add([]byte{}, math.MinInt, true, uint32(math.MaxUint32), uint32(1), uint8(41), uint32(1), math.MinInt, uint16(65535), math.MaxInt, math.MinInt, math.MaxInt)
	f.Add(repeated(most+1), math.MaxInt, false, uint32(1), uint32(math.MaxUint32), uint8(40), uint32(math.MaxUint32), 33, uint16(1), 0, 0, 0)
	f.Add([]byte{2, 1, 0}, 3, false, uint32(0xfdff), uint32(0), uint8(255), uint32(0x0a000001), 8, uint16(2), 10000001, 1<<24+1, 101)
	f.Fuzz(func(t *testing.T, b []byte, code int, isInit bool, seq, ack uint32, n uint8, addr uint32, bits int, tag uint16, band, delay, hops int) {
		// without the checksum that fits hardly any bytes come further
		for _, some := range [][]byte{b, summed(b)} {
			checkDecode(t, some)
			if p, e := Decode(some); e == api.OK {
				if again, e := Encode(p); !bytes.Equal(again, some) || e != api.OK {
					t.Errorf("Encode of Decode(%x) = %x, %d", some, again, e)
				}
			}
		}
		entries := someEntries(int(n))
		if n > 0 {
			entries[n/2] = api.DualEntry{Prefix: api.Prefix{Addr: addr, Len: bits}, Tag: tag, Vector: api.Vector{Band: band, Delay: delay, Hops: hops}}
		}
		p := api.DualPacket{Code: code, Init: isInit, Seq: seq, Ack: ack, Entries: entries}
		checkEncode(t, p)
		if b, e := Encode(p); e == api.OK {
			if got, e := Decode(b); !same(got, p) || e != api.OK {
				t.Errorf("Decode of Encode(%+v) = %+v, %d", p, got, e)
			}
		}
	})
}
