package journal

import (
	"strings"

	"tillroll/api"
	"tillroll/be"
	"tillroll/disk"
	"tillroll/rec"
)

// Open: the journal as it lasts; its snapshot, and its records.
func Open(k *disk.Disk, p Plan) (*Journal, string, []rec.Record, api.Errno) {
	if err := p.Check(k); err != api.OK {
		return nil, "", nil, err
	}
	j, snapshot, log, err := load(k, p)
	if err != api.OK {
		return nil, "", nil, err
	}
	l, err := rec.Parse(&j.table, log)
	if err != api.OK {
		return nil, "", nil, err
	}
	return j, snapshot, l, api.OK
}

// load: the journal, its snapshot, and its log's bytes.
func load(k *disk.Disk, p Plan) (*Journal, string, string, api.Errno) {
	epoch, length, err := readRoot(k, p)
	if err != api.OK {
		return nil, "", "", err
	}
	snapshot, err := readSnapshot(k, p, epoch, length)
	if err != api.OK {
		return nil, "", "", err
	}
	log, err := readLog(k, p, epoch)
	if err != api.OK {
		return nil, "", "", err
	}
	return newJournal(k, p, epoch, log), snapshot, log, api.OK
}

// noughts: are all of these bytes 0?
func noughts(s string) bool { return strings.Count(s, "\x00") == len(s) }

// readRoot: the epoch, and how many bytes its snapshot has.
func readRoot(k *disk.Disk, p Plan) (uint64, int, api.Errno) {
	s, err := k.Read(root)
	if err != api.OK {
		return 0, 0, err
	}
	length := int(be.Get(s[epochBytes:rootHead]))
	if !noughts(s[rootHead:]) || length > p.Snap*len(s) {
		return 0, 0, api.ErrForm
	}
	return be.Get(s[:epochBytes]), length, api.OK
}

// readSnapshot: an epoch's snapshot.
func readSnapshot(k *disk.Disk, p Plan, epoch uint64, length int) (string, api.Errno) {
	var b strings.Builder
	for n := p.area(epoch); b.Len() < length; n++ {
		s, err := k.Read(n)
		if err != api.OK {
			return "", err
		}
		b.WriteString(s)
	}
	all := b.String()
	if !noughts(all[length:]) {
		return "", api.ErrForm
	}
	return all[:length], api.OK
}

// readLog: the bytes of an epoch's log.
func readLog(k *disk.Disk, p Plan, epoch uint64) (string, api.Errno) {
	var b strings.Builder
	for n := p.log(); n < k.Config().Logical; n++ {
		s, err := k.Read(n)
		if err == api.ErrNone || err == api.OK && be.Get(s[:epochBytes]) != epoch {
			break
		}
		if err != api.OK {
			return "", err
		}
		used := int(be.Get(s[epochBytes:logHead]))
		if used < 1 || used > len(s)-logHead || !noughts(s[logHead+used:]) {
			return "", api.ErrForm
		}
		b.WriteString(s[logHead : logHead+used])
		if used < len(s)-logHead {
			break
		}
	}
	return b.String(), api.OK
}
