package shard

import (
	"bytes"
	"errors"
	"strings"
	"testing"

	"coffer/api"
	"coffer/fault"
)

func label() Label {
	return Label{
		Object: api.Object{Name: "key", Plan: api.Plan{Mode: api.Share, T: 2, L: 3}, Size: 15, Epoch: 100},
		Stores: 8,
		Store:  7,
	}
}

// The tags here are the known answers of FNV-1a, which those of the key 0 are.
func TestTags(t *testing.T) {
	for text, want := range map[string]string{"": "\xcb\xf2\x9c\xe4\x84\x22\x23\x25", "a": "\xaf\x63\xdc\x4c\x86\x01\xec\x8c", "foobar": "\x85\x94\x41\x71\xf7\x39\x67\xe8"} {
		if got := string(tagOf([]byte(text), 0)); got != want {
			t.Errorf("the tag of %q is %q, want %q", text, got, want)
		}
	}
	if bytes.Equal(tagOf(nil, 1), tagOf(nil, 1<<63)) {
		t.Error("the tag does not hang on the key")
	}
}

func TestMade(t *testing.T) {
	ahead := "\x00\x02\x03\x08\x07\x00\x64\x00\x0f\x03keypiece"
	want := ahead + string(tagOf([]byte(ahead), 9))
	if got := string(label().Made([]byte("piece"), 9)); got != want {
		t.Errorf("Made = %q, want %q", got, want)
	}
}

func TestHighFirst(t *testing.T) {
	for number, want := range map[uint64]string{0: "\x00\x00", 60: "\x00\x3c", 256: "\x01\x00", 0xfedc: "\xfe\xdc"} {
		if got := string(highFirst(number, 2)); got != want {
			t.Errorf("highFirst(%d, 2) = %q, want %q", number, got, want)
		}
	}
}

func TestPiece(t *testing.T) {
	made := label().Made([]byte("piece"), 9)
	piece, err := label().Piece(made, 9)
	if string(piece) != "piece" || err != nil {
		t.Fatalf("Piece = %q, %v", piece, err)
	}
	piece[0] = '?'
	if piece, _ := label().Piece(made, 9); string(piece) != "piece" {
		t.Error("the piece is the shard's own memory")
	}
}

func TestPieceOfWhatIsNotGood(t *testing.T) {
	made := label().Made([]byte("piece"), 9)
	spoilt := func(at int) []byte {
		other := bytes.Clone(made)
		other[at] ^= 1
		return other
	}
	other := label()
	other.Store = 6
	for _, c := range []struct {
		made  []byte
		key   uint64
		tells string
	}{
		{nil, 9, "0 bytes"}, {made[:len(made)-1], 9, "25 bytes"}, {append(bytes.Clone(made), 0), 9, "27 bytes"}, {label().Made([]byte("pieces"), 9), 9, "27 bytes"},
		{spoilt(0), 9, "head"}, {spoilt(12), 9, "head"}, {other.Made([]byte("piece"), 9), 9, "head"},
		{spoilt(13), 9, "tag"}, {spoilt(18), 9, "tag"}, {spoilt(25), 9, "tag"}, {made, 8, "tag"},
	} {
		piece, err := label().Piece(c.made, c.key)
		if piece != nil || !errors.Is(err, fault.Bad) || !strings.HasPrefix(err.Error(), c.tells) {
			t.Errorf("Piece of %q = %q, %v, want fault.Bad for its %s", c.made, piece, err, c.tells)
		}
	}
}

// changed is the label with one thing about its object, or its stores, being
// another.
func changed(change func(*Label)) Label {
	l := label()
	change(&l)
	return l
}

func TestLength(t *testing.T) {
	for _, c := range []struct {
		label Label
		want  int
		err   error
	}{
		{label(), 26, nil},
		{changed(func(l *Label) { l.Object.Size = 0 }), 21, nil},
		{changed(func(l *Label) { l.Object.Size = 16 }), 27, nil},
		{changed(func(l *Label) { l.Object.Name = "k" }), 24, nil},
		{changed(func(l *Label) { l.Object.Name = "123456789012" }), 35, nil},
		{changed(func(l *Label) { l.Object.Name = "" }), 0, fault.Name},
		{changed(func(l *Label) { l.Object.Name = "1234567890123" }), 0, fault.Name},
		{changed(func(l *Label) { l.Object.Plan.Mode = 2 }), 0, fault.Plan},
		{changed(func(l *Label) { l.Stores = 3 }), 0, fault.Plan},
		{changed(func(l *Label) { l.Object.Size = 61 }), 0, fault.Big},
		{changed(func(l *Label) { l.Object.Name, l.Stores, l.Object.Size = "", 3, 61 }), 0, fault.Name},
		{changed(func(l *Label) { l.Stores, l.Object.Size = 3, 61 }), 0, fault.Plan},
	} {
		got, err := c.label.Length()
		if !errors.Is(err, c.err) || c.err == nil && got != c.want {
			t.Errorf("Length of %v = %d, %v, want %d, %v", c.label, got, err, c.want, c.err)
		}
		if _, pieceErr := c.label.Piece(nil, 9); c.err != nil && !errors.Is(pieceErr, c.err) {
			t.Errorf("Piece by %v: %v, want %v", c.label, pieceErr, c.err)
		}
	}
}

func TestRead(t *testing.T) {
	for _, l := range []Label{
		label(),
		changed(func(l *Label) { l.Object.Name = "" }),
		changed(func(l *Label) { l.Object.Name = strings.Repeat("n", 255) }),
		changed(func(l *Label) { l.Object.Size, l.Object.Epoch, l.Object.Plan.Mode = 0xfedc, 0xba98, 255 }),
	} {
		head := string(l.Head())
		for _, behind := range []string{"", "behind"} {
			got, rest, err := Read(head + behind)
			if got != l || rest != behind || err != nil {
				t.Errorf("Read of the head of %v = %v, %q, %v", l, got, rest, err)
			}
		}
		for length := range len(head) {
			if got, rest, err := Read(head[:length]); got != (Label{}) || rest != "" || !errors.Is(err, fault.Bad) {
				t.Errorf("Read of %q = %v, %q, %v, want fault.Bad", head[:length], got, rest, err)
			}
		}
	}
}
