package disk_test

import (
	"math/rand/v2"
	"strings"
	"testing"

	"jotter/api"
	"jotter/disk"
)

// model is a file told in the plainest way: two texts.
type model struct {
	synced, tail string
}

func (m *model) append(b []byte) api.Errno {
	if len(m.synced)+len(m.tail)+len(b) > api.MaxDisk {
		return api.ErrDiskFull
	}
	m.tail += string(b)
	return api.OK
}

func (m *model) sync() int {
	n := len(m.tail)
	m.synced, m.tail = m.synced+m.tail, ""
	return n
}

func (m *model) cut(n int) api.Errno {
	all := m.synced + m.tail
	switch {
	case n < 0 || n > len(all):
		return api.ErrCut
	case n < len(m.synced):
		m.synced, m.tail = all[:n], ""
	default:
		m.tail = all[len(m.synced):n]
	}
	return api.OK
}

func (m *model) crash(keep, at, mask int) api.Errno {
	if keep < 0 || keep > len(m.tail) {
		return api.ErrKeep
	}
	kept := []byte(m.tail[:keep])
	if mask != 0 {
		if mask < 0 || mask > 255 || at < 0 || at >= keep {
			return api.ErrGarble
		}
		kept[at] ^= byte(mask)
	}
	m.synced, m.tail = m.synced+string(kept), ""
	return api.OK
}

// playOne does one call to both, and fails the test where they answer differently.
func playOne(t *testing.T, r *rand.Rand, d *disk.Disk, m *model) {
	t.Helper()
	size, tail := len(m.synced)+len(m.tail), len(m.tail)
	switch r.IntN(8) {
	case 0, 1, 2:
		b := some(r, r.IntN(40))
		wantErr(t, "P2.3: Append", d.Append(b), m.append(b))
	case 3:
		if got, want := d.Sync(), m.sync(); got != want {
			t.Errorf("P2.4: Sync = %d, want %d", got, want)
		}
	case 4:
		n := r.IntN(size+5) - 2
		wantErr(t, "P2.6: Cut", d.Cut(n), m.cut(n))
	case 5:
		keep, at, mask := r.IntN(tail+4)-1, r.IntN(tail+4)-2, r.IntN(300)-20
		wantErr(t, "P2.7: Crash", d.Crash(keep, at, mask), m.crash(keep, at, mask))
	case 6:
		keep, at := r.IntN(tail+3)-1, r.IntN(9)-4
		wantErr(t, "P2.7: Crash", d.Crash(keep, at, 0), m.crash(keep, at, 0))
	default:
		clear(d.Bytes())
	}
}

func TestAgainstModel(t *testing.T) {
	for seed := range 300 {
		r := dice(seed)
		d, m := disk.New(), &model{}
		for range 60 {
			playOne(t, r, d, m)
			wantFile(t, "P2.8: against the model", d, m.synced+m.tail, len(m.synced))
		}
	}
}

func TestAgainstModelNearTheLimit(t *testing.T) {
	for seed := range 10 {
		r := dice(seed)
		full := strings.Repeat("#", api.MaxDisk-60)
		d, _ := disk.From([]byte(full))
		m := &model{synced: full}
		for range 12 {
			playOne(t, r, d, m)
			b := some(r, r.IntN(60))
			wantErr(t, "P2.3: Append near the limit", d.Append(b), m.append(b))
			wantFile(t, "P2.8: against the model near the limit", d, m.synced+m.tail, len(m.synced))
		}
	}
}

func TestSameCallsSameAnswers(t *testing.T) {
	one, two := disk.New(), disk.New()
	r1, r2 := dice(77), dice(77)
	m1, m2 := &model{}, &model{}
	for range 200 {
		playOne(t, r1, one, m1)
		playOne(t, r2, two, m2)
		wantFile(t, "P2.8: the same calls", one, string(two.Bytes()), two.Synced())
	}
}
