package cutting

import (
	"errors"
	"strings"
	"testing"

	"coffer/api"
	"coffer/fault"
)

// What the errors say is asked here; which of them comes first is asked of the
// calls themselves, in package coffer.
func TestErrorsSayWhatAndWhere(t *testing.T) {
	share := api.Plan{Mode: api.Share, T: 2, L: 1}
	split := func(value string, p api.Plan, n int, tape string) error {
		_, err := Split(value, p, n, tape)
		return err
	}
	join := func(size int, given ...api.Piece) error {
		_, err := Join(given, share, 3, size)
		return err
	}
	for _, c := range []struct {
		err   error
		kind  fault.Kind
		outer string
		tells string
	}{
		{split("", share, 9, ""), fault.Plan, "split", "9 stores"},
		{split("", api.Plan{Mode: 5, T: 6, L: 7}, 8, ""), fault.Plan, "split", "mode 5, T 6, L 7"},
		{split(strings.Repeat("v", 61), share, 2, ""), fault.Big, "split", "61 bytes"},
		{split("abc", share, 2, "t"), fault.Tape, "split", "1 bytes"},
		{join(-1), fault.Big, "join", "-1 bytes"},
		{join(1, api.Piece{Store: 7, Bytes: "x"}), fault.Store, "join", "store 7"},
		{join(1, api.Piece{Store: 2, Bytes: "xyz"}), fault.Bad, "join", "store 2: 3 bytes"},
		{join(1, api.Piece{Store: 2, Bytes: "x"}), fault.Few, "join", "1 pieces"},
	} {
		var kind fault.Kind
		var place *fault.Located
		if !errors.Is(c.err, c.kind) || !errors.As(c.err, &kind) || kind != c.kind {
			t.Errorf("%v is not of the kind %v", c.err, c.kind)
			continue
		}
		if !errors.As(c.err, &place) || place.Where != c.outer || !strings.Contains(c.err.Error(), c.tells) {
			t.Errorf("%v does not tell of %q in %q", c.err, c.tells, c.outer)
		}
	}
}

func TestDealtAndGathered(t *testing.T) {
	for _, c := range []struct {
		text          string
		width, groups int
		want          string
	}{
		{"", 0, 3, ""}, {"", 2, 0, "|"}, {"abcdef", 1, 6, "abcdef"}, {"abcdef", 2, 3, "ace|bdf"}, {"abcd", 3, 2, "ad|b\x00|c\x00"},
	} {
		rows := dealt(c.text, c.width, c.groups)
		var texts []string
		for _, r := range rows {
			texts = append(texts, string(r))
		}
		if got := strings.Join(texts, "|"); got != c.want {
			t.Errorf("dealt(%q, %d, %d) = %q, want %q", c.text, c.width, c.groups, got, c.want)
		}
		if got := string(gathered(rows, c.groups)); got != c.text+strings.Repeat("\x00", len(got)-len(c.text)) {
			t.Errorf("gathered from %q = %q, want %q", texts, got, c.text)
		}
	}
}
