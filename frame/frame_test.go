package frame

import (
	"bytes"
	"encoding/binary"
	"hash/crc32"
	"math"
	"reflect"
	"strings"
	"testing"

	"decorum/api"
)

var sounds = []Rec{
	{Put, api.Req{}},
	{Done, api.Req{ID: 7}},
	{Wait, api.Req{Host: "http://a", Until: 1 << 40}},
	{Put, api.Req{ID: math.MaxInt, Host: strings.Repeat("h", api.MaxURL), Path: strings.Repeat("p", 3*api.MaxURL), Prio: api.MaxPrio, Until: math.MaxInt}},
	{Put, api.Req{ID: 0x0102030405060708, Host: "\x00\xff", Path: "é\n", Prio: 3, Until: 0x1122334455667788}},
}

var unsound = []Rec{
	{}, {Kind: 4}, {Kind: -1}, {Kind: 257}, {Kind: math.MinInt},
	{Put, api.Req{ID: -1}}, {Done, api.Req{ID: math.MinInt}}, {Wait, api.Req{Until: -1}}, {Wait, api.Req{ID: -1}},
	{Put, api.Req{Prio: -1}}, {Put, api.Req{Prio: api.MaxPrio + 1}}, {Done, api.Req{Prio: 256}},
	{Put, api.Req{Host: strings.Repeat("h", api.MaxURL+1)}}, {Put, api.Req{Path: strings.Repeat("p", 3*api.MaxURL+1)}},
}

// layout encodes with the library, whether the record is sound or not.
func layout(r Rec) []byte {
	content := []byte{byte(r.Kind), byte(r.Req.Prio)}
	content = binary.BigEndian.AppendUint64(content, uint64(r.Req.ID))
	content = binary.BigEndian.AppendUint64(content, uint64(r.Req.Until))
	content = binary.BigEndian.AppendUint16(content, uint16(len(r.Req.Host)))
	content = append(content, r.Req.Host+r.Req.Path...)
	return wrap(content)
}

func wrap(content []byte) []byte {
	b := binary.BigEndian.AppendUint16(nil, uint16(len(content)))
	b = binary.BigEndian.AppendUint32(b, crc32.ChecksumIEEE(content))
	return append(b, content...)
}

func TestKinds(t *testing.T) {
	if Put != 1 || Done != 2 || Wait != 3 {
		t.Error(Put, Done, Wait)
	}
}

func TestEncode(t *testing.T) {
	for _, r := range sounds {
		got, e := Encode(r)
		if e != api.OK || !bytes.Equal(got, layout(r)) {
			t.Errorf("Encode(%+v) = %x %d", r, got, e)
		}
	}
	for _, r := range unsound {
		if got, e := Encode(r); e != api.ErrForm || got != nil {
			t.Errorf("Encode(%+v) = %x %d", r, got, e)
		}
	}
}

func TestScan(t *testing.T) {
	var b []byte
	ends := []int{0}
	for _, r := range sounds {
		b = append(b, layout(r)...)
		ends = append(ends, len(b))
	}
	for n := range len(b) + 1 {
		whole := 0
		for whole < len(sounds) && ends[whole+1] <= n {
			whole++
		}
		list, used := Scan(b[:n:n])
		if used != ends[whole] || len(list) != whole || whole > 0 && !reflect.DeepEqual(list, sounds[:whole]) {
			t.Fatalf("%d bytes: %d records in %d bytes, not %d in %d", n, len(list), used, whole, ends[whole])
		}
	}
	if list, used := Scan(nil); list != nil || used != 0 {
		t.Error("Scan of nothing", list, used)
	}
}

func TestScanStopsAtWhatIsNoRecord(t *testing.T) {
	first := layout(sounds[2])
	stops := map[string][]byte{
		"zeros":      make([]byte, 100),
		"no content": wrap(nil),
		"too short":  wrap(make([]byte, 19)),
		"long host":  wrap(append([]byte{1, 0, 17: 0, 18: 0, 19: 3}, "ab"...)),
	}
	for _, r := range unsound {
		if r.Kind >= 0 && r.Kind < 256 && r.Req.Prio >= 0 && r.Req.Prio < 256 {
			stops[string(layout(r))] = layout(r)
		}
	}
	for name, stop := range stops {
		b := append(append(append([]byte{}, first...), stop...), first...)
		if list, used := Scan(b); len(list) != 1 || used != len(first) {
			t.Errorf("%q: %d records in %d bytes", name, len(list), used)
		}
	}
}

func TestScanFindsEveryWrongByte(t *testing.T) {
	good := layout(sounds[4])
	for i := range good {
		for bit := range 8 {
			b := bytes.Clone(good)
			b[i] ^= 1 << bit
			if list, used := Scan(b); len(list) != 0 || used != 0 {
				t.Errorf("byte %d, bit %d: %+v", i, bit, list)
			}
		}
	}
}

func TestSum(t *testing.T) {
	for _, s := range []string{"", "a", "123456789", "\x00", "\x00\x00\x00\x00", "\xff\xff\xff\xff", strings.Repeat("xyz", 999)} {
		if got, want := Sum([]byte(s)), crc32.ChecksumIEEE([]byte(s)); got != want {
			t.Errorf("Sum(%.20q) = %08x, not %08x", s, got, want)
		}
	}
	if Sum([]byte("123456789")) != 0xcbf43926 || Sum(nil) != 0 {
		t.Error("the check value of CRC-32")
	}
}

func TestMemory(t *testing.T) {
	b := layout(sounds[4])
	list, _ := Scan(b)
	clear(b)
	if list[0] != sounds[4] {
		t.Error("a record shares memory with the bytes")
	}
}

func FuzzScan(f *testing.F) {
	for _, r := range sounds {
		f.Add(layout(r))
	}
	f.Fuzz(func(t *testing.T, b []byte) {
		list, used := Scan(b)
		var back []byte
		for _, r := range list {
			one, e := Encode(r)
			if e != api.OK {
				t.Fatal("a record that is not sound")
			}
			back = append(back, one...)
		}
		if !bytes.Equal(back, b[:used]) {
			t.Fatal("the records' encodings are not the bytes")
		}
	})
}
