package image

import (
	"errors"
	"reflect"
	"strings"
	"testing"

	"coffer/api"
	"coffer/fault"
	"coffer/shard"
	"coffer/store"
)

// record is one at the second of three stores, with so many bytes of value.
func record(name string, plan api.Plan, size, epoch int) store.Record {
	object := api.Object{Name: name, Plan: plan, Size: size, Epoch: epoch}
	length, err := shard.Label{Object: object, Stores: 3, Store: 1}.Length()
	if err != nil {
		panic(err)
	}
	return store.Record{Object: object, Shard: []byte(strings.Repeat("s", length))}
}

func withNext(r store.Record) store.Record {
	r.Next = []byte(strings.Repeat("n", len(r.Shard)))
	return r
}

var (
	share    = api.Plan{Mode: api.Share, T: 2, L: 2}
	disperse = api.Plan{Mode: api.Disperse, T: 3, L: 1}
)

// names are as many as there may be, in their order.
const names = "abcdefghij"

func full() []store.Record {
	var records []store.Record
	for i := range len(names) {
		records = append(records, record(names[i:i+1], share, 6*i, 10*i))
	}
	return records
}

func TestMade(t *testing.T) {
	records := []store.Record{record("a", disperse, 1, 0), withNext(record("bc", share, 0, 2))}
	want := "\x01" + "\x01\x03\x01\x03\x01\x00\x00\x00\x01\x01a" + strings.Repeat("s", 20) +
		"\x02" + "\x00\x02\x02\x03\x01\x00\x02\x00\x00\x02bc" + strings.Repeat("s", 20) + strings.Repeat("n", 20)
	if got := string(Made(records, 3, 1)); got != want {
		t.Errorf("Made = %q, want %q", got, want)
	}
}

func TestRecords(t *testing.T) {
	for _, records := range [][]store.Record{
		nil,
		{record("a", disperse, 60, 0)},
		{record("a", share, 60, 100), withNext(record("b", share, 59, 99))},
		{record("\x00", share, 0, 1), record("\x00\x00", share, 0, 0), withNext(record("123456789012", share, 1, 0)), record("\xff", disperse, 0, 0)},
		full(),
	} {
		made := string(Made(records, 3, 1))
		if got, err := Records(made, 3, 1); !reflect.DeepEqual(got, records) || err != nil {
			t.Errorf("Records of %q = %v, %v", made, got, err)
		}
		for length := 1; length < len(made); length++ {
			got, err := Records(made[:length], 3, 1)
			if (err == nil) != (string(Made(got, 3, 1)) == made[:length]) {
				t.Errorf("Records of %q = %v, %v", made[:length], got, err)
			}
		}
	}
}

func TestRecordsOfWhatCannotLieThere(t *testing.T) {
	made := func(records ...store.Record) string { return string(Made(records, 3, 1)) }
	// altered is a record whose first bytes are others from a place on.
	altered := func(r store.Record, at int, with string) string {
		image := made(r)
		return image[:at] + with + image[at+len(with):]
	}
	a, b := record("a", share, 5, 7), record("b", share, 5, 7)
	for _, c := range []struct {
		what  string
		image string
		want  fault.Kind
		tells string
	}{
		{"one that is cut off", made(a)[:9], fault.Bad, "head"},
		{"a name that is cut off", made(a)[:11], fault.Bad, "head"},
		{"a shard that is cut off", made(a, b)[:len(made(a, b))-1], fault.Bad, "1 records ahead"},
		{"a next shard that is cut off", made(withNext(a))[:len(made(withNext(a)))-1], fault.Bad, "bytes"},
		{"no shards", altered(a, 0, "\x00"), fault.Bad, "0 shards"},
		{"three shards", altered(a, 0, "\x03"), fault.Bad, "3 shards"},
		{"more stores", altered(a, 4, "\x04"), fault.Store, "store 1"},
		{"another store", altered(a, 5, "\x02"), fault.Store, "store 2"},
		{"an epoch too many", altered(a, 6, "\x00\x65"), fault.Full, "101 epochs"},
		{"an epoch far too many", altered(a, 6, "\x01\x00"), fault.Full, "256 epochs"},
		{"a next epoch too many", altered(withNext(a), 6, "\x00\x64"), fault.Full, "101 epochs"},
		{"an epoch of what is dispersed", altered(record("a", disperse, 5, 0), 7, "\x01"), fault.Mode, "disperse"},
		{"a next shard of what is dispersed", made(withNext(record("a", disperse, 5, 0))), fault.Mode, "disperse"},
		{"no mode", altered(a, 1, "\x02"), fault.Plan, "mode 2"},
		{"no plan", altered(a, 2, "\x04"), fault.Plan, "T 4"},
		{"no size", altered(a, 8, "\x00\x3d"), fault.Big, "61 bytes"},
		{"a size far too great", altered(a, 8, "\x01\x05"), fault.Big, "261 bytes"},
		{"no name", altered(a, 10, "\x00"), fault.Name, "0 bytes"},
		{"a name too long", altered(record("a", share, 60, 0), 10, "\x0d"), fault.Name, "13 bytes"},
		{"two of one name", made(a, a), fault.Twice, "a"},
		{"another order", made(b, a), fault.Twice, "a"},
		{"one record too many", made(full()...) + made(record("k", share, 0, 0)), fault.Full, "behind the last"},
		{"a byte too many", made(full()...) + "\x01", fault.Full, "1 bytes behind the last"},
	} {
		records, err := Records(c.image, 3, 1)
		if records != nil || !errors.Is(err, c.want) || !strings.Contains(err.Error(), c.tells) {
			t.Errorf("%s: Records = %v, %v, want %v that tells of %q", c.what, records, err, c.want, c.tells)
		}
	}
}
