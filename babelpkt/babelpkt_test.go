package babelpkt

import (
	"bytes"
	"encoding/binary"
	"math"
	"net"
	"slices"
	"strings"
	"testing"

	"octroi/api"
)

// most is how many parts there may be, by hand.
const most = 40

// kinds are all Kinds of parts, with what each of them has in the chapter's table: the greatest number of those that are ints, and of the others whether there is one.
var kinds = []struct {
	kind                         int
	interval, cost, hops         int
	seq, router, tag, hasAddress bool
}{
	{kind: 0, interval: 65535, seq: true},
	{kind: 1, interval: 65535, cost: 65535},
	{kind: 2, interval: 65535, cost: 65535, seq: true, router: true, tag: true, hasAddress: true},
	{kind: 3, hasAddress: true},
	{kind: 4, hops: 255, seq: true, router: true, hasAddress: true},
}

// wrongKinds are numbers that no Kind may be, some of which have the low byte of one that may.
var wrongKinds = []int{-1, -2, -256, -255, -252, 5, 6, 8, 9, 10, 200, 255, 256, 257, 258, 260, 1 << 16, 1<<32 + 2, math.MinInt, math.MinInt + 2, math.MaxInt, math.MaxInt - 1}

// someInts are numbers about the bounds of one and of two bytes, and such as would be within them if they went round.
var someInts = []int{0, 1, 2, 127, 128, 254, 255, 256, 257, 511, 32767, 32768, 65534, 65535, 65536, 65537, 1 << 17, 1 << 24, 1 << 31, 1<<32 - 1, 1 << 32, 1<<32 + 5, 1 << 62, math.MaxInt, math.MaxInt - 1, -1, -2, -255, -256, -65535, -65536, -1 << 32, math.MinInt, math.MinInt + 1, math.MinInt + 255}

// wrongPrefixes are prefixes that may not be, by their Len or by bits behind it.
var wrongPrefixes = []api.Prefix{
	{Addr: 0, Len: -1},
	{Addr: 0, Len: -8},
	{Addr: 0, Len: 33},
	{Addr: 0x0a000000, Len: 40},
	{Addr: 0x0a000000, Len: 256},
	{Addr: 0x0a000000, Len: 264},
	{Addr: 0x0a000000, Len: 1<<32 + 8},
	{Addr: 0, Len: math.MinInt},
	{Addr: 0x0a000000, Len: math.MinInt + 8},
	{Addr: math.MaxUint32, Len: math.MaxInt},
	{Addr: 0, Len: math.MaxInt},
	{Addr: 0x0a000001, Len: 8},
	{Addr: 0x0a800000, Len: 8},
	{Addr: 1, Len: 0},
	{Addr: 0x80000000, Len: 0},
	{Addr: 0x40000000, Len: 1},
	{Addr: 0x0a400000, Len: 9},
	{Addr: 0x0a0b0c01, Len: 24},
	{Addr: 0x0a0b0c40, Len: 25},
	{Addr: math.MaxUint32, Len: 31},
}

// Parts of each Kind of which all bytes differ that may, and their TLVs by hand; the update's has its router ahead of it.
const (
	helloBytes  = "\x04\x06\x00\x00\xa1\xb2\xc3\xd4"
	ihuBytes    = "\x05\x06\x00\x00\xe5\xf6\x17\x28"
	routerBytes = "\x06\x0a\x00\x00\x31\x42\x53\x64\x75\x86\x97\xa8"
	updateBytes = "\x08\x12\x01\x80\x1e\x00\xb9\xca\xdb\xec\xfd\x0e\x1f\x2a\x3b\x4c\xc8\x02\x5d\x6e"
	askBytes    = "\x09\x05\x01\x18\x7f\x8a\x9b"
	askSeqBytes = "\x0a\x12\x01\x20\xac\xbd\xce\x00\xdf\xe1\xf2\x13\x24\x35\x46\x57\x68\x79\x8b\x9c"
)

func hello() api.BabelTlv {
	return api.BabelTlv{Kind: api.BHello, Seq: 0xa1b2, Interval: 0xc3d4}
}

func ihu() api.BabelTlv {
	return api.BabelTlv{Kind: api.BIhu, Cost: 0xe5f6, Interval: 0x1728}
}

func update() api.BabelTlv {
	return api.BabelTlv{Kind: api.BUpdate, Seq: 0xdbec, Interval: 0xb9ca, Cost: 0xfd0e, Prefix: api.Prefix{Addr: 0x1f2a3b4c, Len: 30}, Router: 0x31425364758697a8, Tag: 0x5d6e}
}

func ask() api.BabelTlv {
	return api.BabelTlv{Kind: api.BAsk, Prefix: api.Prefix{Addr: 0x7f8a9b00, Len: 24}}
}

func askSeq() api.BabelTlv {
	return api.BabelTlv{Kind: api.BAskSeq, Seq: 0xacbd, Prefix: api.Prefix{Addr: 0x68798b9c, Len: 32}, Router: 0xdfe1f21324354657, Hops: 0xce}
}

// oneOfEach are these, and eachBytes the TLVs of all of them.
func oneOfEach() []api.BabelTlv {
	return []api.BabelTlv{hello(), ihu(), update(), ask(), askSeq()}
}

const eachBytes = helloBytes + ihuBytes + routerBytes + updateBytes + askBytes + askSeqBytes

// packet is the packet of TLVs, with its length as it must be.
func packet(tlvs ...string) []byte {
	rest := strings.Join(tlvs, "")
	return append(binary.BigEndian.AppendUint16([]byte{42, 2}, uint16(len(rest))), rest...)
}

// updateOf is an update of a router to a prefix, as short as may be.
func updateOf(router uint64, addr uint32, bits int) api.BabelTlv {
	return api.BabelTlv{Kind: api.BUpdate, Prefix: api.Prefix{Addr: addr, Len: bits}, Router: router}
}

// mask is the one of the library.
func mask(bits int) uint32 {
	return binary.BigEndian.Uint32(net.CIDRMask(bits, 32))
}

// someParts are n parts that may be, of all Kinds; many of the updates have their first bytes and their router in common.
func someParts(n, seed int) []api.BabelTlv {
	var out []api.BabelTlv
	state := uint32(seed)*2654435761 + 3
	next := func() uint32 {
		state = state*1664525 + 1013904223
		return state>>16 | state<<16
	}
	for range n {
		kind := int(next() % 7)
		bits := int(next() % 33)
		addr := []uint32{0, 0x0a000000, 0x0a010000, 0x0a010200, 0x0a010203, next()}[next()%6] & mask(bits)
		router := []uint64{0, 7, 1 << 63, uint64(next())<<32 | uint64(next())}[next()%4]
		part := api.BabelTlv{Kind: min(kind, 4)}
		switch kind {
		case 0:
			part.Seq, part.Interval = uint16(next()), int(uint16(next()))
		case 1:
			part.Cost, part.Interval = int(uint16(next())), int(uint16(next()))
		case 3:
			part.Prefix = api.Prefix{Addr: addr, Len: bits}
		case 4:
			part.Prefix, part.Seq, part.Hops, part.Router = api.Prefix{Addr: addr, Len: bits}, uint16(next()), int(next()%256), router
		default:
			part = updateOf(router, addr, bits)
			part.Seq, part.Interval, part.Cost, part.Tag = uint16(next()), int(uint16(next())), int(uint16(next())), uint16(next()%3)*uint16(next())
		}
		out = append(out, part)
	}
	return out
}

// slowMay is the chapter's MAY BE, by the table of kinds, with masks of the library.
func slowMay(part api.BabelTlv) bool {
	if part.Kind < 0 || part.Kind > 4 {
		return false
	}
	k := kinds[part.Kind]
	p := part.Prefix
	switch {
	case part.Interval < 0 || part.Interval > k.interval:
	case part.Cost < 0 || part.Cost > k.cost:
	case part.Hops < 0 || part.Hops > k.hops:
	case part.Seq != 0 && !k.seq:
	case part.Router != 0 && !k.router:
	case part.Tag != 0 && !k.tag:
	case p.Len < 0 || p.Len > 32 || p.Addr&^mask(p.Len) != 0:
	case p != api.Prefix{} && !k.hasAddress:
	default:
		return true
	}
	return false
}

// slowSqueeze is the chapter's Squeeze, byte by byte.
func slowSqueeze(a, b uint32, have int) int {
	if have < 0 || have > 4 {
		return 0
	}
	first, second := binary.BigEndian.AppendUint32(nil, a), binary.BigEndian.AppendUint32(nil, b)
	n := 0
	for n < have && first[n] == second[n] {
		n++
	}
	return n
}

// slowEncode is P6.1, with numbers of the library.
func slowEncode(l []api.BabelTlv) ([]byte, api.Errno) {
	if len(l) > most {
		return nil, api.ErrLong
	}
	if slices.ContainsFunc(l, func(part api.BabelTlv) bool { return !slowMay(part) }) {
		return nil, api.ErrArg
	}
	order := binary.BigEndian
	var tlvs []string
	add := func(kind byte, body []byte) {
		tlvs = append(tlvs, string([]byte{kind, byte(len(body))})+string(body))
	}
	var routers []uint64
	var address uint32
	for _, part := range l {
		need := int(math.Ceil(float64(part.Prefix.Len) / 8))
		addr := order.AppendUint32(nil, part.Prefix.Addr)[:need]
		switch part.Kind {
		case 0:
			add(4, order.AppendUint16(order.AppendUint16([]byte{0, 0}, part.Seq), uint16(part.Interval)))
		case 1:
			add(5, order.AppendUint16(order.AppendUint16([]byte{0, 0}, uint16(part.Cost)), uint16(part.Interval)))
		case 2:
			if len(routers) == 0 || routers[len(routers)-1] != part.Router {
				add(6, order.AppendUint64([]byte{0, 0}, part.Router))
				routers = append(routers, part.Router)
			}
			omitted := slowSqueeze(address, part.Prefix.Addr, need)
			body := []byte{1, 128, byte(part.Prefix.Len), byte(omitted)}
			for _, n := range []uint16{uint16(part.Interval), part.Seq, uint16(part.Cost)} {
				body = order.AppendUint16(body, n)
			}
			body = append(body, addr[omitted:]...)
			if part.Tag != 0 {
				body = order.AppendUint16(append(body, 200, 2), part.Tag)
			}
			add(8, body)
			address = part.Prefix.Addr
		case 3:
			add(9, append([]byte{1, byte(part.Prefix.Len)}, addr...))
		case 4:
			body := order.AppendUint16([]byte{1, byte(part.Prefix.Len)}, part.Seq)
			body = order.AppendUint64(append(body, byte(part.Hops), 0), part.Router)
			add(10, append(body, addr...))
		}
	}
	return packet(tlvs...), api.OK
}

// slowDecode is P6.2, with numbers of the library: first all TLVs, then what they tell.
func slowDecode(b []byte) ([]api.BabelTlv, api.Errno) {
	if len(b) < 4 || b[0] != 42 || b[1] != 2 || int(b[2])*256+int(b[3]) != len(b)-4 {
		return nil, api.ErrForm
	}
	var tlvs [][]byte
	for at := 4; at < len(b); {
		if at+1 == len(b) || at+2+int(b[at+1]) > len(b) {
			return nil, api.ErrForm
		}
		end := at + 2 + int(b[at+1])
		tlvs = append(tlvs, b[at:end])
		at = end
	}
	var out []api.BabelTlv
	var router []byte
	address := make([]byte, 4)
	for _, tlv := range tlvs {
		body := tlv[2:]
		part := api.BabelTlv{}
		switch {
		case tlv[0] == 6:
			if len(body) != 10 || body[0] != 0 || body[1] != 0 {
				return nil, api.ErrForm
			}
			router = body[2:]
			continue
		case !slices.Contains([]byte{4, 5, 8, 9, 10}, tlv[0]):
			continue
		case !slowPart(tlv[0], body, router, address, &part):
			return nil, api.ErrForm
		}
		out = append(out, part)
	}
	if len(out) > most {
		return nil, api.ErrLong
	}
	return out, api.OK
}

// slowPart is the part of a TLV's bytes, and whether they are those of its type; of an update, address becomes its own.
func slowPart(kind byte, body, router, address []byte, part *api.BabelTlv) bool {
	// what stands at a fixed place must be there, and be that: below 0 is any byte
	form := map[byte][]int{
		4:  {0, 0, -1, -1, -1, -1},
		5:  {0, 0, -1, -1, -1, -1},
		8:  {1, 128, -1, -1, -1, -1, -1, -1, -1, -1},
		9:  {1, -1},
		10: {1, -1, -1, -1, -1, 0, -1, -1, -1, -1, -1, -1, -1, -1},
	}[kind]
	if len(body) < len(form) {
		return false
	}
	for i, want := range form {
		if want >= 0 && int(body[i]) != want {
			return false
		}
	}
	order := binary.BigEndian
	rest := body[len(form):]
	switch kind {
	case 4:
		*part = api.BabelTlv{Kind: 0, Seq: order.Uint16(body[2:]), Interval: int(order.Uint16(body[4:]))}
		return len(rest) == 0
	case 5:
		*part = api.BabelTlv{Kind: 1, Cost: int(order.Uint16(body[2:])), Interval: int(order.Uint16(body[4:]))}
		return len(rest) == 0
	}
	bits, omitted := int(body[1]), 0
	if kind == 8 {
		bits, omitted = int(body[2]), int(body[3])
	}
	need := bits / 8
	if bits%8 != 0 {
		need++
	}
	if bits > 32 || omitted > need || len(rest) < need-omitted {
		return false
	}
	addr := make([]byte, 4)
	for i := range need {
		if i < omitted {
			addr[i] = address[i]
		} else {
			addr[i] = rest[i-omitted]
		}
	}
	rest = rest[need-omitted:]
	p := api.Prefix{Addr: order.Uint32(addr), Len: bits}
	if p.Addr&^mask(bits) != 0 {
		return false
	}
	switch kind {
	case 9:
		*part = api.BabelTlv{Kind: 3, Prefix: p}
		return len(rest) == 0
	case 10:
		*part = api.BabelTlv{Kind: 4, Prefix: p, Seq: order.Uint16(body[2:]), Hops: int(body[4]), Router: order.Uint64(body[6:])}
		return len(rest) == 0
	}
	if router == nil {
		return false
	}
	*part = api.BabelTlv{Kind: 2, Prefix: p, Router: order.Uint64(router), Interval: int(order.Uint16(body[4:])), Seq: order.Uint16(body[6:]), Cost: int(order.Uint16(body[8:]))}
	copy(address, addr)
	if len(rest) == 0 {
		return true
	}
	if len(rest) != 4 || rest[0] != 200 || rest[1] != 2 || rest[2]|rest[3] == 0 {
		return false
	}
	part.Tag = order.Uint16(rest[2:])
	return true
}

// checkEncode holds Encode against slowEncode, and what was handed in against what it was.
func checkEncode(t *testing.T, l []api.BabelTlv) {
	t.Helper()
	before := slices.Clone(l)
	want, wantErr := slowEncode(l)
	got, e := Encode(l)
	if !bytes.Equal(got, want) || e != wantErr {
		t.Fatalf("Encode(%+v) = %x, %d, want %x, %d", l, got, e, want, wantErr)
	}
	if !slices.Equal(l, before) {
		t.Fatalf("Encode(%+v) left %+v", before, l)
	}
}

// wantBytes asks for these bytes of Encode, and for the parts of these by Decode.
func wantBytes(t *testing.T, l []api.BabelTlv, want []byte) {
	t.Helper()
	if got, e := Encode(l); !bytes.Equal(got, want) || e != api.OK {
		t.Errorf("Encode(%+v) = %x, %d, want %x", l, got, e, want)
	}
	wantParts(t, want, l)
	checkEncode(t, l)
}

// wantRefused asks for an error of Encode, with which there are no bytes.
func wantRefused(t *testing.T, l []api.BabelTlv, want api.Errno) {
	t.Helper()
	if got, e := Encode(l); len(got) != 0 || e != want {
		t.Errorf("Encode(%+v) = %x, %d, want none and %d", l, got, e, want)
	}
	checkEncode(t, l)
}

// checkDecode holds Decode against slowDecode, and what was handed in against what it was.
func checkDecode(t *testing.T, b []byte) {
	t.Helper()
	before := bytes.Clone(b)
	want, wantErr := slowDecode(b)
	got, e := Decode(b)
	if !slices.Equal(got, want) || e != wantErr {
		t.Fatalf("Decode(%x) = %+v, %d, want %+v, %d", b, got, e, want, wantErr)
	}
	if !bytes.Equal(b, before) {
		t.Fatalf("Decode(%x) left %x", before, b)
	}
}

// wantParts asks for these parts of Decode.
func wantParts(t *testing.T, b []byte, want []api.BabelTlv) {
	t.Helper()
	if got, e := Decode(b); !slices.Equal(got, want) || e != api.OK {
		t.Errorf("Decode(%x) = %+v, %d, want %+v", b, got, e, want)
	}
	checkDecode(t, b)
}

// wantNone asks for an error of Decode, with which there are no parts.
func wantNone(t *testing.T, b []byte, want api.Errno) {
	t.Helper()
	if got, e := Decode(b); len(got) != 0 || e != want {
		t.Errorf("Decode(%x) = %+v, %d, want none and %d", b, got, e, want)
	}
	checkDecode(t, b)
}

// withByte is a copy of b with another byte at a place.
func withByte(b []byte, at int, to byte) []byte {
	out := bytes.Clone(b)
	out[at] = to
	return out
}

// Squeeze: each number of bytes in common, and each number of bytes to have.
func TestSqueeze(t *testing.T) {
	const a = 0x0a141e28
	for common, b := range []uint32{0x0b141e28, 0x0a151e28, 0x0a141f28, 0x0a141e29, 0x0a141e28} {
		for have := range 5 {
			if got := Squeeze(a, b, have); got != min(common, have) {
				t.Errorf("Squeeze(%08x, %08x, %d) = %d, want %d", a, b, have, got, min(common, have))
			}
		}
		for _, have := range []int{-1, -2, -4, 5, 6, 8, 32, 256, 260, 1 << 32, 1<<32 + 4, math.MinInt, math.MinInt + 4, math.MaxInt} {
			if got := Squeeze(a, b, have); got != 0 {
				t.Errorf("Squeeze(%08x, %08x, %d) = %d, want 0", a, b, have, got)
			}
		}
	}
	// bytes that are the same behind one that is not are not counted
	for _, b := range []uint32{0x8a141e28, 0xff141e28, 0x0a941e28, 0x0a149e28, 0x0a141ea8} {
		for have := -1; have < 6; have++ {
			if got, want := Squeeze(a, b, have), slowSqueeze(a, b, have); got != want || Squeeze(b, a, have) != want {
				t.Errorf("Squeeze(%08x, %08x, %d) = %d, want %d", a, b, have, got, want)
			}
		}
	}
}

// Squeeze: two that differ in each one bit, and in all below it.
func TestSqueezeBits(t *testing.T) {
	for _, a := range []uint32{0, math.MaxUint32, 0x0a141e28, 0x80000001} {
		for bit := range 32 {
			for have := -1; have < 6; have++ {
				want := 0
				if have >= 0 && have <= 4 {
					want = min(have, 3-bit/8)
				}
				for _, b := range []uint32{a ^ 1<<bit, a ^ (1<<(bit+1) - 1)} {
					if got := Squeeze(a, b, have); got != want {
						t.Errorf("Squeeze(%08x, %08x, %d) = %d, want %d", a, b, have, got, want)
					}
				}
			}
		}
	}
}

// P6.1, P6.2: one part of each Kind, by hand, alone and together.
func TestEachKind(t *testing.T) {
	wantBytes(t, []api.BabelTlv{hello()}, packet(helloBytes))
	wantBytes(t, []api.BabelTlv{ihu()}, packet(ihuBytes))
	wantBytes(t, []api.BabelTlv{update()}, packet(routerBytes, updateBytes))
	wantBytes(t, []api.BabelTlv{ask()}, packet(askBytes))
	wantBytes(t, []api.BabelTlv{askSeq()}, packet(askSeqBytes))
	wantBytes(t, oneOfEach(), packet(eachBytes))
	wantBytes(t, []api.BabelTlv{askSeq(), ask(), update(), ihu(), hello()}, packet(askSeqBytes, askBytes, routerBytes, updateBytes, ihuBytes, helloBytes))
	// all that is not the Kind is noughts
	wantBytes(t, []api.BabelTlv{{}}, packet("\x04\x06\x00\x00\x00\x00\x00\x00"))
	wantBytes(t, []api.BabelTlv{{Kind: api.BIhu}}, packet("\x05\x06\x00\x00\x00\x00\x00\x00"))
	wantBytes(t, []api.BabelTlv{{Kind: api.BUpdate}}, packet("\x06\x0a\x00\x00\x00\x00\x00\x00\x00\x00\x00\x00\x08\x0a\x01\x80\x00\x00\x00\x00\x00\x00\x00\x00"))
	wantBytes(t, []api.BabelTlv{{Kind: api.BAsk}}, packet("\x09\x02\x01\x00"))
	wantBytes(t, []api.BabelTlv{{Kind: api.BAskSeq}}, packet("\x0a\x0e\x01\x00\x00\x00\x00\x00\x00\x00\x00\x00\x00\x00\x00\x00"))
}

// P6.1, P6.2: no part is a packet too; 40 are, 41 are not, whatever they are.
func TestEncodeCounts(t *testing.T) {
	wantBytes(t, nil, []byte{42, 2, 0, 0})
	wantBytes(t, []api.BabelTlv{}, []byte{42, 2, 0, 0})
	for n := range 70 {
		for _, kind := range oneOfEach() {
			l := slices.Repeat([]api.BabelTlv{kind}, n)
			if n > most {
				wantRefused(t, l, api.ErrLong)
				continue
			}
			if b, e := Encode(l); e != api.OK || len(b) < 4 || int(b[2])<<8+int(b[3]) != len(b)-4 {
				t.Errorf("Encode of %d parts = %x, %d", n, b, e)
			}
			checkEncode(t, l)
		}
	}
}

// P6.1, P1: too many is told ahead of parts that may not be.
func TestEncodeLongFirst(t *testing.T) {
	for _, wrong := range []api.BabelTlv{{Kind: 5}, {Kind: -1}, {Interval: -1}, {Kind: api.BAsk, Prefix: api.Prefix{Len: 33}}} {
		wantRefused(t, slices.Repeat([]api.BabelTlv{wrong}, most), api.ErrArg)
		wantRefused(t, slices.Repeat([]api.BabelTlv{wrong}, most+1), api.ErrLong)
		for at := range most + 1 {
			l := someParts(most+1, at)
			l[at] = wrong
			wantRefused(t, l, api.ErrLong)
		}
	}
}

// P6.1: one part that may not be, at each place among those that may.
func TestEncodeWrongAtEachPlace(t *testing.T) {
	for _, n := range []int{1, 2, 3, most} {
		for at := range n {
			for _, wrong := range []api.BabelTlv{{Kind: 5}, {Hops: 1}, {Kind: api.BUpdate, Prefix: api.Prefix{Addr: 1}}, {Kind: api.BAskSeq, Hops: 256}} {
				l := someParts(n, at)
				l[at] = wrong
				wantRefused(t, l, api.ErrArg)
			}
		}
	}
}

// P6.1: a Kind below and above those of the table.
func TestEncodeWrongKinds(t *testing.T) {
	for _, kind := range wrongKinds {
		wantRefused(t, []api.BabelTlv{{Kind: kind}}, api.ErrArg)
		for _, part := range oneOfEach() {
			part.Kind = kind
			wantRefused(t, []api.BabelTlv{part}, api.ErrArg)
			wantRefused(t, []api.BabelTlv{hello(), part, ask()}, api.ErrArg)
		}
	}
}

// P6.1: of each Kind each number at 0, at its greatest, and beyond it both ways; the greatest is 0 where the Kind has none.
func TestEncodeNumbers(t *testing.T) {
	for _, k := range kinds {
		for _, start := range []api.BabelTlv{{Kind: k.kind}, oneOfEach()[k.kind]} {
			for _, n := range someInts {
				for _, c := range []struct {
					name   string
					change func(*api.BabelTlv)
					most   int
				}{
					{"Interval", func(part *api.BabelTlv) { part.Interval = n }, k.interval},
					{"Cost", func(part *api.BabelTlv) { part.Cost = n }, k.cost},
					{"Hops", func(part *api.BabelTlv) { part.Hops = n }, k.hops},
				} {
					part := start
					c.change(&part)
					want := api.ErrArg
					if n >= 0 && n <= c.most {
						want = api.OK
					}
					b, e := Encode([]api.BabelTlv{part})
					if e != want || (len(b) > 0) != (want == api.OK) {
						t.Errorf("%s %d: Encode(%+v) = %x, %d, want %d", c.name, n, part, b, e, want)
					}
					checkEncode(t, []api.BabelTlv{part})
				}
			}
		}
	}
}

// P6.1: Seq, Router and Tag of a Kind that has none are 0, and any of one that has.
func TestEncodeSeqRouterTag(t *testing.T) {
	for _, k := range kinds {
		for _, start := range []api.BabelTlv{{Kind: k.kind}, oneOfEach()[k.kind]} {
			for bit := range 64 {
				part := start
				part.Router = 1 << bit
				checkMay(t, part, k.router)
				if bit < 16 {
					part = start
					part.Seq = 1 << bit
					checkMay(t, part, k.seq)
					part = start
					part.Tag = 1 << bit
					checkMay(t, part, k.tag)
				}
			}
			part := start
			part.Seq, part.Router, part.Tag = 0, 0, 0
			checkMay(t, part, true)
			part.Router = math.MaxUint64
			checkMay(t, part, k.router)
			part.Router, part.Seq = 0, math.MaxUint16
			checkMay(t, part, k.seq)
			part.Seq, part.Tag = 0, math.MaxUint16
			checkMay(t, part, k.tag)
		}
	}
}

// checkMay asks for a part to be encoded and decoded again, or else for ErrArg.
func checkMay(t *testing.T, part api.BabelTlv, may bool) {
	t.Helper()
	l := []api.BabelTlv{part}
	if !may {
		wantRefused(t, l, api.ErrArg)
		return
	}
	b, e := Encode(l)
	if e != api.OK {
		t.Errorf("Encode(%+v) = %x, %d", l, b, e)
	}
	wantParts(t, b, l)
	checkEncode(t, l)
}

// P6.1: a prefix that may not be; one that is not the zero one, of a Kind that has none.
func TestEncodePrefixes(t *testing.T) {
	for _, k := range kinds {
		part := oneOfEach()[k.kind]
		for _, p := range wrongPrefixes {
			part.Prefix = p
			checkMay(t, part, false)
			wantRefused(t, []api.BabelTlv{update(), part}, api.ErrArg)
		}
		for bits := 1; bits <= 32; bits++ {
			for _, addr := range []uint32{0, 0x0a141e28, math.MaxUint32} {
				part.Prefix = api.Prefix{Addr: addr & mask(bits), Len: bits}
				checkMay(t, part, k.hasAddress)
			}
		}
		part.Prefix = api.Prefix{}
		checkMay(t, part, true)
	}
}

// P6.1: as many bytes of the address as Len needs, by hand.
func TestEncodeLens(t *testing.T) {
	for _, c := range []struct {
		bits int
		addr uint32
		want string
	}{
		{0, 0, ""},
		{1, 0x80000000, "\x80"},
		{7, 0xfe000000, "\xfe"},
		{8, 0x21000000, "\x21"},
		{9, 0x21800000, "\x21\x80"},
		{16, 0x21320000, "\x21\x32"},
		{17, 0x21328000, "\x21\x32\x80"},
		{24, 0x21324300, "\x21\x32\x43"},
		{25, 0x21324380, "\x21\x32\x43\x80"},
		{31, 0x21324354, "\x21\x32\x43\x54"},
		{32, 0x21324355, "\x21\x32\x43\x55"},
		// noughts at the end of an address are bytes of it, too
		{32, 0x21000000, "\x21\x00\x00\x00"},
		{24, 0x21000000, "\x21\x00\x00"},
		{9, 0x21000000, "\x21\x00"},
	} {
		p := api.Prefix{Addr: c.addr, Len: c.bits}
		size := byte(len(c.want))
		wantBytes(t, []api.BabelTlv{{Kind: api.BAsk, Prefix: p}}, packet(string([]byte{9, 2 + size, 1, byte(c.bits)})+c.want))
		wantBytes(t, []api.BabelTlv{{Kind: api.BAskSeq, Prefix: p, Seq: 0x0102, Hops: 3, Router: 4}},
			packet(string([]byte{10, 14 + size, 1, byte(c.bits), 1, 2, 3, 0, 0, 0, 0, 0, 0, 0, 0, 4})+c.want))
		wantBytes(t, []api.BabelTlv{{Kind: api.BUpdate, Prefix: p, Router: 4}},
			packet("\x06\x0a\x00\x00\x00\x00\x00\x00\x00\x00\x00\x04", string([]byte{8, 10 + size, 1, 128, byte(c.bits), 0, 0, 0, 0, 0, 0, 0})+c.want))
		wantBytes(t, []api.BabelTlv{{Kind: api.BUpdate, Prefix: p, Router: 4, Tag: 0x0506}},
			packet("\x06\x0a\x00\x00\x00\x00\x00\x00\x00\x00\x00\x04", string([]byte{8, 14 + size, 1, 128, byte(c.bits), 0, 0, 0, 0, 0, 0, 0})+c.want+"\xc8\x02\x05\x06"))
	}
}

// router is the TLV that tells a small router, short an update of no bytes and no other numbers, by hand.
func router(n byte) string {
	return "\x06\x0a\x00\x00\x00\x00\x00\x00\x00\x00\x00" + string([]byte{n})
}

const short = "\x08\x0a\x01\x80\x00\x00\x00\x00\x00\x00\x00\x00"

// P6.1: a router is told ahead of the first update, and ahead of each one of another router.
func TestEncodeRouters(t *testing.T) {
	of := func(n uint64) api.BabelTlv { return updateOf(n, 0, 0) }
	for _, c := range []struct {
		l    []api.BabelTlv
		want string
	}{
		{[]api.BabelTlv{of(0)}, router(0) + short},
		{[]api.BabelTlv{of(0), of(0)}, router(0) + short + short},
		{[]api.BabelTlv{of(7)}, router(7) + short},
		{[]api.BabelTlv{of(7), of(7), of(7)}, router(7) + short + short + short},
		{[]api.BabelTlv{of(7), of(8)}, router(7) + short + router(8) + short},
		{[]api.BabelTlv{of(7), of(8), of(7)}, router(7) + short + router(8) + short + router(7) + short},
		{[]api.BabelTlv{of(7), of(8), of(8), of(7), of(7)}, router(7) + short + router(8) + short + short + router(7) + short + short},
		{[]api.BabelTlv{of(7), of(0), of(0), of(7)}, router(7) + short + router(0) + short + short + router(7) + short},
		{[]api.BabelTlv{of(0), of(7), of(0)}, router(0) + short + router(7) + short + router(0) + short},
		// other parts between them tell no router, also those that have one
		{[]api.BabelTlv{of(7), hello(), of(7)}, router(7) + short + helloBytes + short},
		{[]api.BabelTlv{of(7), askSeq(), ask(), ihu(), of(7)}, router(7) + short + askSeqBytes + askBytes + ihuBytes + short},
		{[]api.BabelTlv{{Kind: api.BAskSeq, Router: 7}, of(7)}, "\x0a\x0e\x01\x00\x00\x00\x00\x00\x00\x00\x00\x00\x00\x00\x00\x07" + router(7) + short},
		{[]api.BabelTlv{{Kind: api.BAskSeq, Router: 0}, of(0)}, "\x0a\x0e\x01\x00\x00\x00\x00\x00\x00\x00\x00\x00\x00\x00\x00\x00" + router(0) + short},
		// it stands just ahead of its update, not ahead of all parts
		{[]api.BabelTlv{hello(), ask(), of(7)}, helloBytes + askBytes + router(7) + short},
	} {
		wantBytes(t, c.l, packet(c.want))
	}
	// two that have only some of their bytes in common
	for bit := range 64 {
		const one = 0x0102030405060708
		l := []api.BabelTlv{of(one), of(one ^ 1<<bit), of(one)}
		b, e := Encode(l)
		if len(b) != 4+3*(12+12) || e != api.OK {
			t.Errorf("Encode(%+v) = %x, %d", l, b, e)
		}
		wantParts(t, b, l)
		checkEncode(t, l)
	}
}

// squeezed is an update with a Len, an OMITTED, and some bytes of its address, by hand.
func squeezed(bits, omitted byte, addr string) string {
	return string([]byte{8, byte(10 + len(addr)), 1, 128, bits, omitted, 0, 0, 0, 0, 0, 0}) + addr
}

// P6.1: bytes that an address has in common with that of the last update are left out; ahead of the first one it is 0.
func TestEncodeOmitted(t *testing.T) {
	of := func(addr uint32, bits int) api.BabelTlv { return updateOf(7, addr, bits) }
	for _, c := range []struct {
		l    []api.BabelTlv
		want string
	}{
		// the first one, held against 0
		{[]api.BabelTlv{of(0, 0)}, squeezed(0, 0, "")},
		{[]api.BabelTlv{of(0, 1)}, squeezed(1, 1, "")},
		{[]api.BabelTlv{of(0, 8)}, squeezed(8, 1, "")},
		{[]api.BabelTlv{of(0, 32)}, squeezed(32, 4, "")},
		{[]api.BabelTlv{of(0x00010000, 16)}, squeezed(16, 1, "\x01")},
		{[]api.BabelTlv{of(0x00000102, 32)}, squeezed(32, 2, "\x01\x02")},
		{[]api.BabelTlv{of(0x00000001, 32)}, squeezed(32, 3, "\x01")},
		{[]api.BabelTlv{of(0x01000000, 32)}, squeezed(32, 0, "\x01\x00\x00\x00")},
		// no byte in common, some, and all
		{[]api.BabelTlv{of(0x0a010203, 32), of(0x0b010203, 32)}, squeezed(32, 0, "\x0a\x01\x02\x03") + squeezed(32, 0, "\x0b\x01\x02\x03")},
		{[]api.BabelTlv{of(0x0a010203, 32), of(0x0a020203, 32)}, squeezed(32, 0, "\x0a\x01\x02\x03") + squeezed(32, 1, "\x02\x02\x03")},
		{[]api.BabelTlv{of(0x0a010203, 32), of(0x0a010303, 32)}, squeezed(32, 0, "\x0a\x01\x02\x03") + squeezed(32, 2, "\x03\x03")},
		{[]api.BabelTlv{of(0x0a010203, 32), of(0x0a010204, 32)}, squeezed(32, 0, "\x0a\x01\x02\x03") + squeezed(32, 3, "\x04")},
		{[]api.BabelTlv{of(0x0a010203, 32), of(0x0a010203, 32)}, squeezed(32, 0, "\x0a\x01\x02\x03") + squeezed(32, 4, "")},
		// a shorter Len behind them
		{[]api.BabelTlv{of(0x0a010203, 32), of(0x0a010200, 24)}, squeezed(32, 0, "\x0a\x01\x02\x03") + squeezed(24, 3, "")},
		{[]api.BabelTlv{of(0x0a010203, 32), of(0x0a000000, 8)}, squeezed(32, 0, "\x0a\x01\x02\x03") + squeezed(8, 1, "")},
		{[]api.BabelTlv{of(0x0a010203, 32), of(0, 0)}, squeezed(32, 0, "\x0a\x01\x02\x03") + squeezed(0, 0, "")},
		{[]api.BabelTlv{of(0x0aff0000, 16), of(0x0a800000, 9)}, squeezed(16, 0, "\x0a\xff") + squeezed(9, 1, "\x80")},
		{[]api.BabelTlv{of(0x0a800000, 16), of(0x0a800000, 9)}, squeezed(16, 0, "\x0a\x80") + squeezed(9, 2, "")},
		// a longer Len behind them: noughts behind the shorter one are bytes of its address, too
		{[]api.BabelTlv{of(0x0a000000, 8), of(0x0a010000, 16)}, squeezed(8, 0, "\x0a") + squeezed(16, 1, "\x01")},
		{[]api.BabelTlv{of(0x0a000000, 8), of(0x0a000000, 16)}, squeezed(8, 0, "\x0a") + squeezed(16, 2, "")},
		{[]api.BabelTlv{of(0x0a000000, 8), of(0x0a000001, 32)}, squeezed(8, 0, "\x0a") + squeezed(32, 3, "\x01")},
		{[]api.BabelTlv{of(0x0a000000, 8), of(0x0a000000, 32)}, squeezed(8, 0, "\x0a") + squeezed(32, 4, "")},
		{[]api.BabelTlv{of(0x0a010203, 32), of(0, 0), of(0x0a010203, 32)}, squeezed(32, 0, "\x0a\x01\x02\x03") + squeezed(0, 0, "") + squeezed(32, 0, "\x0a\x01\x02\x03")},
		// held against the last one, not against the first one
		{[]api.BabelTlv{of(0x0a010203, 32), of(0x0b000000, 8), of(0x0a010203, 32)}, squeezed(32, 0, "\x0a\x01\x02\x03") + squeezed(8, 0, "\x0b") + squeezed(32, 0, "\x0a\x01\x02\x03")},
		{[]api.BabelTlv{of(0x0a010203, 32), of(0x0a010300, 24), of(0x0a010303, 32)}, squeezed(32, 0, "\x0a\x01\x02\x03") + squeezed(24, 2, "\x03") + squeezed(32, 3, "\x03")},
		// parts of other Kinds between them have no address that counts
		{[]api.BabelTlv{of(0x0a010203, 32), ask(), askSeq(), hello(), ihu(), of(0x0a010204, 32)}, squeezed(32, 0, "\x0a\x01\x02\x03") + askBytes + askSeqBytes + helloBytes + ihuBytes + squeezed(32, 3, "\x04")},
		{[]api.BabelTlv{of(0x0a010203, 32), ask(), of(0x7f8a9b00, 24)}, squeezed(32, 0, "\x0a\x01\x02\x03") + askBytes + squeezed(24, 0, "\x7f\x8a\x9b")},
		// and none of them has bytes left out itself
		{[]api.BabelTlv{of(0x7f8a9b00, 24), ask()}, squeezed(24, 0, "\x7f\x8a\x9b") + askBytes},
		{[]api.BabelTlv{of(0x68798b9c, 32), askSeq()}, squeezed(32, 0, "\x68\x79\x8b\x9c") + askSeqBytes},
	} {
		// the router is told ahead of the first update, which is the first part here
		wantBytes(t, c.l, packet(router(7), c.want))
	}
	// another router changes nothing of the address
	wantBytes(t, []api.BabelTlv{of(0x0a010203, 32), updateOf(8, 0x0a010204, 32)},
		packet(router(7), squeezed(32, 0, "\x0a\x01\x02\x03"), router(8), squeezed(32, 3, "\x04")))
}

// P6.1: pairs of updates with each pair of Lens.
func TestEncodeLenPairs(t *testing.T) {
	for first := range 33 {
		for second := range 33 {
			for _, addr := range []uint32{0, 0x0a010203, 0x0a010000, 0x0a0102ff, 0xffffffff, 0x80000000} {
				l := []api.BabelTlv{updateOf(7, 0x0a010203&mask(first), first), updateOf(7, addr&mask(second), second)}
				checkEncode(t, l)
				b, _ := Encode(l)
				wantParts(t, b, l)
			}
		}
	}
}

// P6.1: lists of all Kinds, of each number of parts.
func TestEncodeLists(t *testing.T) {
	for n := range most + 3 {
		for seed := range 40 {
			checkEncode(t, someParts(n, seed))
		}
	}
}

// P6.2: b is no packet: too few bytes, another beginning, another length than there is.
func TestDecodeHead(t *testing.T) {
	wantNone(t, nil, api.ErrForm)
	wantNone(t, []byte{}, api.ErrForm)
	for _, b := range []string{"\x2a", "\x2a\x02", "\x2a\x02\x00", "\x00\x00\x00\x00", "\x02\x2a\x00\x00", "\x2a\x02\x00\x01", "\x2a\x02\x01\x00", "\x2a\x02\xff\xff", "\x2a\x02\xff\xfc", "\x2a\x02\x00\x00\x00", "\x2a\x02\x00\x04"} {
		wantNone(t, []byte(b), api.ErrForm)
	}
	wantParts(t, []byte("\x2a\x02\x00\x00"), nil)
	for _, good := range [][]byte{packet(), packet(helloBytes), packet(eachBytes), packet("\x63\x00")} {
		for at := range 4 {
			for to := range 256 {
				if byte(to) != good[at] {
					wantNone(t, withByte(good, at, byte(to)), api.ErrForm)
				}
			}
		}
		// bytes less and more than the length tells, of which some are whole TLVs
		for n := range len(good) {
			wantNone(t, good[:n], api.ErrForm)
		}
		for _, more := range []string{"\x00", "\x63\x00", helloBytes, string(good)} {
			wantNone(t, append(bytes.Clone(good), more...), api.ErrForm)
		}
	}
	// a length that has both of its bytes, told in their order
	long := packet(strings.Repeat("\x63\x02\x01\x02", 0x81))
	wantParts(t, long, nil)
	wantNone(t, withByte(withByte(long, 2, long[3]), 3, long[2]), api.ErrForm)
}

// P6.2: more bytes than a length can tell are no packet, whatever it tells of them; all that it can tell are.
func TestDecodeGreatLengths(t *testing.T) {
	full := append([]byte{42, 2, 255, 255}, strings.Repeat("\x63\xff"+strings.Repeat("x", 255), 255)...)
	wantParts(t, full, nil)
	for _, told := range []string{"\x00\x00", "\x00\x01", "\xff\xff", "\x01\x01"} {
		b := append(append([]byte{42, 2}, told...), strings.Repeat("\x63\x02\x00\x00", 1<<14)...)
		wantNone(t, b, api.ErrForm)
		wantNone(t, append(b, 0x63), api.ErrForm)
	}
}

// P6.2: a TLV whose length, or whose bytes, are not all there, though the packet's length is as it must be.
func TestDecodeCutTlvs(t *testing.T) {
	for _, tlv := range []string{helloBytes, ihuBytes, routerBytes, updateBytes, askBytes, askSeqBytes, "\x63\x03\x01\x02\x03", "\x00\x01\x00", "\xff\xff" + strings.Repeat("\x00", 255)} {
		for n := 1; n < len(tlv); n++ {
			wantNone(t, packet(tlv[:n]), api.ErrForm)
			wantNone(t, packet(helloBytes, tlv[:n]), api.ErrForm)
			wantNone(t, packet(routerBytes, tlv[:n]), api.ErrForm)
			wantNone(t, packet(eachBytes, tlv[:n]), api.ErrForm)
		}
	}
	for kind := range 256 {
		wantNone(t, packet(string([]byte{byte(kind)})), api.ErrForm)
		wantNone(t, packet(string([]byte{byte(kind), 1})), api.ErrForm)
		wantNone(t, packet(string([]byte{byte(kind), 255})), api.ErrForm)
	}
}

// resized is a TLV with another number of bytes, cut off or noughts behind them, and its length as it must be.
func resized(tlv string, by int) string {
	body := tlv[2:]
	if by < 0 {
		body = body[:len(body)+by]
	}
	return string([]byte{tlv[0], byte(len(tlv) - 2 + by)}) + body + strings.Repeat("\x00", max(by, 0))
}

// P6.2: each type of the table with fewer bytes and with more.
func TestDecodeSizes(t *testing.T) {
	for _, tlv := range []string{helloBytes, ihuBytes, routerBytes, askBytes, askSeqBytes} {
		for by := 2 - len(tlv); by < 20; by++ {
			if by == 0 {
				continue
			}
			wantNone(t, packet(resized(tlv, by)), api.ErrForm)
			wantNone(t, packet(resized(tlv, by), helloBytes), api.ErrForm)
		}
	}
	// an update may be four bytes shorter: then it has no tag
	plain := update()
	plain.Tag = 0
	for by := 2 - len(updateBytes); by < 20; by++ {
		b := packet(routerBytes, resized(updateBytes, by))
		switch by {
		case 0:
			wantParts(t, b, []api.BabelTlv{update()})
		case -4:
			wantParts(t, b, []api.BabelTlv{plain})
		default:
			wantNone(t, b, api.ErrForm)
		}
	}
	// two tags are one too many, and so is a further TLV within an update
	for _, more := range []string{"\xc8\x02\x5d\x6e", "\x01\x02\x00\x00", "\x00", "\x01\x00"} {
		for _, start := range []string{updateBytes, resized(updateBytes, -4)} {
			if start != updateBytes && more == "\xc8\x02\x5d\x6e" {
				continue
			}
			wantNone(t, packet(routerBytes, withLength(start+more)), api.ErrForm)
		}
	}
	// nor is there a tag in any other TLV
	for _, tlv := range []string{helloBytes, ihuBytes, routerBytes, askBytes, askSeqBytes} {
		wantNone(t, packet(withLength(tlv+"\xc8\x02\x5d\x6e")), api.ErrForm)
	}
}

// withLength is a TLV whose length is that of its bytes.
func withLength(tlv string) string {
	return string([]byte{tlv[0], byte(len(tlv) - 2)}) + tlv[2:]
}

// P6.2: each of the noughts, 1 and 128, with each other value.
func TestDecodeFixedBytes(t *testing.T) {
	for _, c := range []struct {
		tlv    string
		places []int
	}{
		{helloBytes, []int{2, 3}},
		{ihuBytes, []int{2, 3}},
		{routerBytes, []int{2, 3}},
		{updateBytes, []int{2, 3, 16, 17}},
		{askBytes, []int{2}},
		{askSeqBytes, []int{2, 7}},
	} {
		for _, at := range c.places {
			for to := range 256 {
				other := string(withByte([]byte(c.tlv), at, byte(to)))
				if other == c.tlv {
					continue
				}
				wantNone(t, packet(routerBytes, other), api.ErrForm)
				wantNone(t, packet(eachBytes, other, helloBytes), api.ErrForm)
			}
		}
	}
}

// P6.2: each byte of a packet with each value; of the numbers, each value tells another part.
func TestDecodeOneByteOff(t *testing.T) {
	b := packet(eachBytes)
	for at := range b {
		for to := range 256 {
			checkDecode(t, withByte(b, at, byte(to)))
		}
	}
	for seed := range 12 {
		b, _ := slowEncode(someParts(12, seed))
		for at := range b {
			for _, flip := range []byte{1, 2, 3, 4, 8, 0x10, 0x20, 0x40, 0x80, 0xff} {
				checkDecode(t, withByte(b, at, b[at]^flip))
			}
		}
	}
}

// P6.2: each Len from 0 to 255, with each number of bytes behind it.
func TestDecodeLens(t *testing.T) {
	for bits := range 256 {
		for n := range 40 {
			addr := strings.Repeat("\x00", n)
			isGood := bits <= 32 && n == (bits+7)/8
			for _, tlv := range []string{
				withLength("\x09\x00\x01" + string([]byte{byte(bits)}) + addr),
				withLength("\x0a\x00\x01" + string([]byte{byte(bits)}) + "\x00\x00\x00\x00\x00\x00\x00\x00\x00\x00\x00\x00" + addr),
				squeezed(byte(bits), 0, addr),
			} {
				b := packet(router(7), tlv)
				if !isGood {
					wantNone(t, b, api.ErrForm)
					continue
				}
				if l, e := Decode(b); len(l) != 1 || l[0].Prefix != (api.Prefix{Len: bits}) || e != api.OK {
					t.Errorf("Decode(%x) = %+v, %d", b, l, e)
				}
				checkDecode(t, b)
			}
		}
	}
}

// P6.2: bits behind Len, of each Len, in bytes that are told.
func TestDecodeBitsBehindLen(t *testing.T) {
	for bits := range 33 {
		for bit := range 8 * ((bits + 7) / 8) {
			addr := binary.BigEndian.AppendUint32(nil, 1<<(31-bit))[:(bits+7)/8]
			for _, tlv := range []string{
				withLength("\x09\x00\x01" + string([]byte{byte(bits)}) + string(addr)),
				withLength("\x0a\x00\x01" + string([]byte{byte(bits)}) + "\x00\x00\x00\x00\x00\x00\x00\x00\x00\x00\x00\x00" + string(addr)),
				squeezed(byte(bits), 0, string(addr)),
			} {
				b := packet(router(7), tlv)
				if bit >= bits {
					wantNone(t, b, api.ErrForm)
					continue
				}
				if l, e := Decode(b); len(l) != 1 || l[0].Prefix != (api.Prefix{Addr: 1 << (31 - bit), Len: bits}) || e != api.OK {
					t.Errorf("Decode(%x) = %+v, %d", b, l, e)
				}
			}
		}
	}
}

// P6.2: OMITTED from 0 to what Len needs, and beyond it, with as many bytes as are left, fewer and more.
func TestDecodeOmitted(t *testing.T) {
	const first = 0x0a141e28
	start := squeezed(32, 0, "\x0a\x14\x1e\x28")
	for bits := range 33 {
		need := (bits + 7) / 8
		for omitted := range 256 {
			for n := range 6 {
				b := packet(router(7), start, squeezed(byte(bits), byte(omitted), strings.Repeat("\x00", n)))
				if omitted > need || omitted+n != need {
					wantNone(t, b, api.ErrForm)
					continue
				}
				addr := uint32(first) & mask(8*omitted)
				if addr&^mask(bits) != 0 {
					wantNone(t, b, api.ErrForm)
					continue
				}
				wantParts(t, b, []api.BabelTlv{updateOf(7, first, 32), updateOf(7, addr, bits)})
			}
		}
	}
}

// P6.2: a Len above 32 is none, with whatever OMITTED and however many bytes.
func TestDecodeOmittedOfWrongLens(t *testing.T) {
	start := squeezed(32, 0, "\x0a\x14\x1e\x28")
	for _, bits := range []byte{33, 34, 39, 40, 41, 48, 64, 128, 247, 248, 249, 255} {
		for omitted := range 256 {
			for _, n := range []int{0, 1, 2, 3, 4, 5, 31, 32} {
				tlv := squeezed(bits, byte(omitted), strings.Repeat("\x00", n))
				wantNone(t, packet(router(7), tlv), api.ErrForm)
				wantNone(t, packet(router(7), start, tlv), api.ErrForm)
			}
		}
	}
}

// P6.2: bytes that are left out are those of the last update ahead, of any router, or noughts; its other bytes play no part.
func TestDecodeAddressAhead(t *testing.T) {
	for _, c := range []struct {
		tlvs string
		want []api.BabelTlv
	}{
		{squeezed(32, 4, ""), []api.BabelTlv{updateOf(7, 0, 32)}},
		{squeezed(32, 3, "\x05"), []api.BabelTlv{updateOf(7, 5, 32)}},
		{squeezed(8, 1, ""), []api.BabelTlv{updateOf(7, 0, 8)}},
		{squeezed(32, 0, "\x0a\x01\x02\x03") + squeezed(24, 2, "\x09"), []api.BabelTlv{updateOf(7, 0x0a010203, 32), updateOf(7, 0x0a010900, 24)}},
		// fewer left out than might be
		{squeezed(32, 0, "\x0a\x01\x02\x03") + squeezed(32, 1, "\x01\x02\x03"), []api.BabelTlv{updateOf(7, 0x0a010203, 32), updateOf(7, 0x0a010203, 32)}},
		{squeezed(32, 0, "\x0a\x01\x02\x03") + squeezed(32, 0, "\x0a\x01\x02\x03"), []api.BabelTlv{updateOf(7, 0x0a010203, 32), updateOf(7, 0x0a010203, 32)}},
		// noughts behind a shorter Len ahead
		{squeezed(32, 0, "\x0a\x01\x02\x03") + squeezed(8, 1, "") + squeezed(32, 4, ""), []api.BabelTlv{updateOf(7, 0x0a010203, 32), updateOf(7, 0x0a000000, 8), updateOf(7, 0x0a000000, 32)}},
		{squeezed(32, 0, "\x0a\x01\x02\x03") + squeezed(0, 0, "") + squeezed(32, 4, ""), []api.BabelTlv{updateOf(7, 0x0a010203, 32), updateOf(7, 0, 0), updateOf(7, 0, 32)}},
		// the address goes on behind other TLVs, also those that have one, and behind another router
		{squeezed(32, 0, "\x0a\x01\x02\x03") + askBytes + askSeqBytes + "\x63\x02\x01\x02" + squeezed(32, 4, ""), []api.BabelTlv{updateOf(7, 0x0a010203, 32), ask(), askSeq(), updateOf(7, 0x0a010203, 32)}},
		{squeezed(32, 0, "\x0a\x01\x02\x03") + router(8) + squeezed(32, 4, ""), []api.BabelTlv{updateOf(7, 0x0a010203, 32), updateOf(8, 0x0a010203, 32)}},
	} {
		wantParts(t, packet(router(7), c.tlvs), c.want)
	}
	// bits behind Len that come from the address ahead
	for _, c := range []string{
		squeezed(16, 0, "\x0a\xff") + squeezed(9, 2, ""),
		squeezed(16, 0, "\x0a\x40") + squeezed(9, 2, ""),
		squeezed(32, 0, "\x0a\x01\x02\x03") + squeezed(31, 4, ""),
		squeezed(32, 0, "\x0a\x01\x02\x03") + squeezed(7, 1, "") + squeezed(6, 1, ""),
		squeezed(8, 0, "\x0a") + squeezed(1, 1, ""),
	} {
		wantNone(t, packet(router(7), c), api.ErrForm)
	}
}

// P6.2: an update's tag: not 0, of the type 200 and the length 2.
func TestDecodeTags(t *testing.T) {
	plain := resized(updateBytes, -4)
	tagged := func(tag string) []byte { return packet(routerBytes, withLength(plain+tag)) }
	part := update()
	for _, tag := range []uint16{1, 2, 255, 256, 0x8000, 0x00ff, 0xff00, 65535, 0x0102} {
		part.Tag = tag
		wantParts(t, tagged(string(binary.BigEndian.AppendUint16([]byte{200, 2}, tag))), []api.BabelTlv{part})
	}
	part.Tag = 0
	wantParts(t, tagged(""), []api.BabelTlv{part})
	for _, tag := range []string{"\xc8\x02\x00\x00", "\xc8", "\xc8\x00", "\xc8\x01\x05", "\xc8\x02", "\xc8\x02\x05", "\xc8\x03\x05\x06", "\xc8\x03\x05\x06\x07", "\xc8\x01\x05\x06", "\xc8\x00\x05\x06", "\xc9\x02\x05\x06", "\xc7\x02\x05\x06", "\x00\x02\x05\x06", "\x02\xc8\x05\x06", "\xc8\x02\x05\x06\x00"} {
		wantNone(t, tagged(tag), api.ErrForm)
	}
}

// P6.2: an update without a TLV of type 6 ahead of it; one that comes too late, or that other parts seem to tell, is of no use.
func TestDecodeNoRouter(t *testing.T) {
	for _, c := range []string{
		updateBytes,
		short,
		helloBytes + updateBytes,
		updateBytes + routerBytes,
		short + routerBytes + updateBytes,
		askSeqBytes + updateBytes,
		"\x63\x0a\x00\x00\x00\x00\x00\x00\x00\x00\x00\x07" + short,
		"\x07\x0a\x00\x00\x00\x00\x00\x00\x00\x00\x00\x07" + short,
	} {
		wantNone(t, packet(c), api.ErrForm)
	}
}

// P6.2: the last router ahead counts; one that no update needs, or that is told again, changes nothing.
func TestDecodeRouters(t *testing.T) {
	of := func(n uint64) api.BabelTlv { return updateOf(n, 0, 0) }
	for _, c := range []struct {
		tlvs string
		want []api.BabelTlv
	}{
		{router(7), nil},
		{router(7) + router(8), nil},
		{router(7) + short, []api.BabelTlv{of(7)}},
		{router(0) + short, []api.BabelTlv{of(0)}},
		{router(7) + router(8) + short, []api.BabelTlv{of(8)}},
		{router(7) + router(0) + short, []api.BabelTlv{of(0)}},
		{router(7) + short + router(7) + short, []api.BabelTlv{of(7), of(7)}},
		{router(7) + short + router(8) + short + short + router(7) + short, []api.BabelTlv{of(7), of(8), of(8), of(7)}},
		{router(7) + short + router(8), []api.BabelTlv{of(7)}},
		{router(7) + helloBytes + askSeqBytes + short, []api.BabelTlv{hello(), askSeq(), of(7)}},
	} {
		wantParts(t, packet(c.tlvs), c.want)
	}
	// a wrong one is refused, though no update needs it, and though one was told ahead
	for _, wrong := range []string{"\x06\x00", resized(routerBytes, -1), resized(routerBytes, 1), "\x06\x0a\x00\x01\x00\x00\x00\x00\x00\x00\x00\x07"} {
		wantNone(t, packet(wrong), api.ErrForm)
		wantNone(t, packet(wrong, router(7), short), api.ErrForm)
		wantNone(t, packet(router(7), short, wrong), api.ErrForm)
		wantNone(t, packet(router(7), wrong, short), api.ErrForm)
	}
}

// P6.2: types that are not in the table, ahead of, between and behind the others.
func TestDecodeStrange(t *testing.T) {
	for kind := range 256 {
		if slices.Contains([]int{4, 5, 6, 8, 9, 10}, kind) {
			continue
		}
		for _, n := range []int{0, 1, 2, 6, 10, 200, 255} {
			strange := string([]byte{byte(kind), byte(n)}) + strings.Repeat("\x06", n)
			wantParts(t, packet(strange), nil)
			wantParts(t, packet(strange, strange), nil)
			wantParts(t, packet(strange, helloBytes, strange, ihuBytes, routerBytes, strange, updateBytes, askBytes, strange, askSeqBytes, strange), oneOfEach())
			wantNone(t, packet(helloBytes, strange[:len(strange)-1]), api.ErrForm)
		}
	}
}

// P6.2: 40 parts and 41; TLVs of type 6 and strange ones are no parts.
func TestDecodeCounts(t *testing.T) {
	for n := range 60 {
		for _, c := range []struct {
			tlv  string
			part api.BabelTlv
		}{
			{helloBytes, hello()},
			{ihuBytes, ihu()},
			{routerBytes + updateBytes, update()},
			{askBytes, ask()},
			{askSeqBytes, askSeq()},
			{router(7) + "\x63\x01\x00" + router(8) + short + "\x0b\x00" + router(9), updateOf(8, 0, 0)},
		} {
			b := packet(strings.Repeat(c.tlv, n))
			if n > most {
				wantNone(t, b, api.ErrLong)
			} else {
				wantParts(t, b, slices.Repeat([]api.BabelTlv{c.part}, n))
			}
		}
	}
	wantParts(t, packet(strings.Repeat(router(7), 500)), nil)
	wantParts(t, packet(strings.Repeat("\x63\x00", 500), strings.Repeat(helloBytes, most), strings.Repeat(router(7), 500)), slices.Repeat([]api.BabelTlv{hello()}, most))
	wantNone(t, packet(strings.Repeat("\x09\x02\x01\x00", 16383)), api.ErrLong)
}

// P6.2, P1: bytes that are no packet are told ahead of too many parts, wherever the fault is.
func TestDecodeFormFirst(t *testing.T) {
	many := strings.Repeat(helloBytes, most+1)
	wantNone(t, packet(many), api.ErrLong)
	wantNone(t, packet(many, "\x63\x00"), api.ErrLong)
	// bytes of a TLV that are not there are a fault behind all others
	for _, cut := range []string{"\x04", "\x63", "\x63\x01", helloBytes[:7], routerBytes[:1], updateBytes[:12]} {
		wantNone(t, packet(many, cut), api.ErrForm)
		wantNone(t, packet(many, many, cut), api.ErrForm)
	}
	// a TLV with other bytes than its type's may be ahead of too many, among them, and behind them
	for _, wrong := range []string{
		resized(helloBytes, 1), resized(ihuBytes, -1), resized(routerBytes, 1), updateBytes, "\x09\x02\x01\x21", "\x0a\x00",
		routerBytes + resized(updateBytes, 1), routerBytes + squeezed(8, 2, ""), routerBytes + squeezed(7, 0, "\x01"),
	} {
		wantNone(t, packet(wrong, many), api.ErrForm)
		wantNone(t, packet(many[:len(helloBytes)*20], wrong, many), api.ErrForm)
		wantNone(t, packet(many, wrong), api.ErrForm)
		wantNone(t, packet(many, wrong, many), api.ErrForm)
	}
	b := packet(many)
	wantNone(t, b[:len(b)-1], api.ErrForm)
	wantNone(t, append(bytes.Clone(b), 0), api.ErrForm)
	wantNone(t, withByte(b, 0, 41), api.ErrForm)
	wantNone(t, withByte(b, 1, 1), api.ErrForm)
	// two faults that are both ErrForm
	wantNone(t, packet(updateBytes, "\x09\x02\x01\x21"), api.ErrForm)
	wantNone(t, withByte(packet(updateBytes), 0, 0), api.ErrForm)
}

// P6.3: Decode of Encode are the parts, of every Kind, and of updates that leave bytes out.
func TestDecodeOfEncode(t *testing.T) {
	for n := range most + 1 {
		for seed := range 60 {
			l := someParts(n, seed)
			b, e := Encode(l)
			if e != api.OK {
				t.Fatalf("Encode(%+v) = %x, %d", l, b, e)
			}
			if got, e := Decode(b); !slices.Equal(got, l) || e != api.OK {
				t.Fatalf("Decode of Encode(%+v) = %+v, %d", l, got, e)
			}
		}
	}
}

// P6.3: a packet without its last bytes is refused, and so is one with some behind it.
func TestDecodeCut(t *testing.T) {
	for seed := range 20 {
		b, _ := Encode(someParts(seed, seed))
		for n := range b {
			wantNone(t, b[:n], api.ErrForm)
			wantNone(t, b[:n:n], api.ErrForm)
		}
		for n := 1; n < 5; n++ {
			wantNone(t, append(bytes.Clone(b), make([]byte, n)...), api.ErrForm)
		}
		wantNone(t, append(bytes.Clone(b), b...), api.ErrForm)
	}
}

// P6.1, P6.2: of all bytes that are near to a packet, the parts of those that are one may be encoded, and are the same again.
func TestEncodeOfDecode(t *testing.T) {
	count := 0
	start := packet(eachBytes, squeezed(24, 3, ""), "\x63\x01\x05")
	for at := range start {
		for to := range 256 {
			l, e := Decode(withByte(start, at, byte(to)))
			if e != api.OK {
				continue
			}
			count++
			b, e := Encode(l)
			if e != api.OK {
				t.Fatalf("Encode(%+v) = %x, %d", l, b, e)
			}
			if again, e := Decode(b); !slices.Equal(again, l) || e != api.OK {
				t.Fatalf("Decode of Encode(%+v) = %+v, %d", l, again, e)
			}
		}
	}
	if count < 1000 {
		t.Errorf("only %d of them are packets", count)
	}
}

// R3: what is answered is the caller's own: later changes to either change nothing of the other.
func TestNothingShared(t *testing.T) {
	b := packet(eachBytes)
	before := bytes.Clone(b)
	l, _ := Decode(b)
	other, _ := Decode(b)
	for i := range b {
		b[i] = 9
	}
	if !slices.Equal(l, oneOfEach()) || !slices.Equal(other, oneOfEach()) {
		t.Errorf("the bytes were changed, and so were the parts: %+v", l)
	}
	copy(b, before)
	clear(l)
	if !bytes.Equal(b, before) || !slices.Equal(other, oneOfEach()) {
		t.Errorf("the parts were changed, and so were the bytes, or other parts: %x, %+v", b, other)
	}

	first, _ := Encode(other)
	second, _ := Encode(other)
	clear(first)
	clear(other)
	if !bytes.Equal(second, before) {
		t.Errorf("other bytes, or the parts, were changed, and so were these: %x", second)
	}
	none, _ := Encode(nil)
	clear(none)
	wantBytes(t, nil, []byte{42, 2, 0, 0})
}

// R3: what is in memory behind the parts and the bytes plays no part, and stays.
func TestNothingBehind(t *testing.T) {
	parts := someParts(30, 5)
	before := slices.Clone(parts)
	for n := range parts {
		want, _ := slowEncode(parts[:n:n])
		if got, e := Encode(parts[:n]); !bytes.Equal(got, want) || e != api.OK || !slices.Equal(parts, before) {
			t.Errorf("Encode(%+v) = %x, %d, want %x", parts[:n], got, e, want)
		}
		behind := append(bytes.Clone(want), want...)
		if got, e := Decode(behind[:len(want)]); !slices.Equal(got, parts[:n]) || e != api.OK || !bytes.Equal(behind[len(want):], want) {
			t.Errorf("Decode(%x) = %+v, %d, want %+v", want, got, e, parts[:n])
		}
	}
}

// R5: nothing hangs on what was asked before.
func TestAskedTwice(t *testing.T) {
	for range 3 {
		wantBytes(t, []api.BabelTlv{update()}, packet(routerBytes, updateBytes))
		wantNone(t, packet(updateBytes), api.ErrForm)
		wantParts(t, packet(router(7), squeezed(32, 4, "")), []api.BabelTlv{updateOf(7, 0, 32)})
		wantRefused(t, []api.BabelTlv{{Kind: 5}}, api.ErrArg)
		wantRefused(t, make([]api.BabelTlv, most+1), api.ErrLong)
		wantNone(t, packet(strings.Repeat(helloBytes, most+1)), api.ErrLong)
		if Squeeze(0x0a010203, 0x0a010200, 4) != 3 {
			t.Error("Squeeze")
		}
	}
}

// The chapter's example.
func TestExamples(t *testing.T) {
	wantBytes(t, []api.BabelTlv{{Kind: api.BHello, Seq: 5, Interval: 400}}, []byte{42, 2, 0, 8, 4, 6, 0, 0, 0, 5, 1, 144})
}

// P1, R1: no call panics, at any argument, and all keep to their promises.
func FuzzCalls(f *testing.F) {
	f.Add(packet(eachBytes), uint8(1), 0, uint16(0), 0, 0, uint32(0), 0, uint64(0), uint16(0), 0)
	f.Add(packet(router(7), squeezed(32, 0, "\x0a\x01\x02\x03"), squeezed(24, 3, ""), "\x63\x01\x05"), uint8(5), 2, uint16(0xdbec), 0xb9ca, 0xfd0e, uint32(0x1f2a3b4c), 30, uint64(0x31425364758697a8), uint16(0x5d6e), 0)
	f.Add(packet(strings.Repeat(helloBytes, most+1)), uint8(41), 4, uint16(1), math.MinInt, math.MaxInt, uint32(math.MaxUint32), math.MinInt, uint64(math.MaxUint64), uint16(65535), math.MaxInt)
	f.Add([]byte{}, uint8(40), math.MinInt, uint16(2), 65536, -1, uint32(1), 33, uint64(1), uint16(1), 256)
	f.Add([]byte{42, 2, 0, 1, 8}, uint8(255), math.MaxInt, uint16(3), 1, 1, uint32(0x0a000001), 8, uint64(3), uint16(2), -1)
	f.Fuzz(func(t *testing.T, b []byte, n uint8, kind int, seq uint16, interval, cost int, addr uint32, bits int, router uint64, tag uint16, hops int) {
		checkDecode(t, b)
		// the same bytes as TLVs, so that what is behind the head is looked at
		if len(b) < 1<<16 {
			checkDecode(t, packet(string(b)))
			checkDecode(t, packet(routerBytes, string(b[:min(len(b), 60000)])))
		}
		l := someParts(int(n), int(seq))
		if n > 0 {
			l[n/2] = api.BabelTlv{Kind: kind, Seq: seq, Interval: interval, Cost: cost, Prefix: api.Prefix{Addr: addr, Len: bits}, Router: router, Tag: tag, Hops: hops}
		}
		checkEncode(t, l)
		if b, e := Encode(l); e == api.OK {
			if got, e := Decode(b); !slices.Equal(got, l) || e != api.OK {
				t.Errorf("Decode of Encode(%+v) = %+v, %d", l, got, e)
			}
		}
		for _, have := range []int{bits, cost, hops, int(n) % 6} {
			if got, want := Squeeze(addr, uint32(router), have), slowSqueeze(addr, uint32(router), have); got != want {
				t.Errorf("Squeeze(%08x, %08x, %d) = %d, want %d", addr, uint32(router), have, got, want)
			}
		}
	})
}
