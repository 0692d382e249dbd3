package wal

import (
	"bytes"
	"errors"
	"slices"
	"sort"

	"jotter/api"
	"jotter/disk"
)

// Log is a list of records on a disk.
type Log struct {
	disk    *disk.Disk
	records []record
}

// record is a payload of the log. Its end on the disk stands beside it, so that no call must go over all lengths to find it.
type record struct {
	payload []byte
	end     int
}

// Open scans the disk and cuts it at the first bad record; the error tells why (nil: nothing was cut).
func Open(d *disk.Disk) (*Log, error) {
	payloads, _, err := Scan(d.Bytes())
	var bad *api.Fault
	if errors.As(err, &bad) {
		d.Cut(bad.At)
	}
	l := &Log{disk: d}
	for _, p := range payloads {
		l.hold(p)
	}
	return l, err
}

// Append puts a record behind the last, unsynced.
func (l *Log) Append(payload []byte) error {
	b, err := Frame(payload)
	if err != nil {
		return err
	}
	if e := l.disk.Append(b); e != api.OK {
		return e
	}
	l.hold(bytes.Clone(payload))
	return nil
}

// Sync syncs the disk, and tells how many records became synced.
func (l *Log) Sync() int {
	before := l.Synced()
	l.disk.Sync()
	return l.Synced() - before
}

// Trim keeps the first n records.
func (l *Log) Trim(n int) error {
	if n < 0 || n > l.Count() {
		return api.ErrTrim
	}
	l.disk.Cut(l.end(n))
	l.records = slices.Delete(l.records, n, l.Count())
	return nil
}

// Count tells how many records there are.
func (l *Log) Count() int { return len(l.records) }

// Synced tells how many of them lie whole in the synced bytes.
func (l *Log) Synced() int {
	synced := l.disk.Synced()
	return sort.Search(l.Count(), func(i int) bool { return l.end(i+1) > synced })
}

// Get gives the payload of record i, from 0.
func (l *Log) Get(i int) ([]byte, error) {
	if i < 0 || i >= l.Count() {
		return nil, api.ErrIndex
	}
	return bytes.Clone(l.records[i].payload), nil
}

// All gives all payloads.
func (l *Log) All() [][]byte {
	all := make([][]byte, l.Count())
	for i, r := range l.records {
		all[i] = bytes.Clone(r.payload)
	}
	return all
}

// hold adds a payload whose record stands on the disk already, and keeps its memory.
func (l *Log) hold(payload []byte) {
	end := l.end(l.Count()) + len(payload) + frameSize
	l.records = append(l.records, record{payload, end})
}

// end tells where on the disk the first n records end.
func (l *Log) end(n int) int {
	if n == 0 {
		return 0
	}
	return l.records[n-1].end
}
