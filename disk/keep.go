package disk

import (
	"strings"

	"tillroll/api"
	"tillroll/geo"
	"tillroll/level"
	"tillroll/move"
	"tillroll/pool"
	"tillroll/tag"
	"tillroll/victim"
)

// mover: that of the disk's parts.
func (k *Disk) mover() move.Mover {
	return move.Mover{D: k.drive, P: k.pool, S: k.stream, M: k.places}
}

// spares: how many blocks may fail yet.
func (k *Disk) spares() int { return max(k.config.Spares-k.pool.Count(pool.Bad), 0) }

// reserve: how many blocks must be free: one that may fail yet is kept, too.
func (k *Disk) reserve() int { return geo.Reserve + k.spares() }

// safe: ahead of a block that is opened so many free ones are clean that one is still, when the power is cut and others fail.
func (k *Disk) safe() api.Errno { return k.scrub(2 + k.spares()) }

// stop: what is told of an error of what is below: without a block that was wanted it can only be read.
func (k *Disk) stop(err api.Errno) api.Errno {
	if err == api.OK || err == api.ErrPower {
		return err
	}
	k.read = true
	return api.ErrRead
}

// learn: what the table of bad blocks tells.
func (k *Disk) learn() {
	bad := k.twin.Table().List()
	for _, b := range bad {
		k.pool.Set(b, pool.Bad)
	}
	if len(bad) > k.config.Spares {
		k.read = true
	}
}

// tidy: behind a mount the table is in two blocks, and no page that was given up is left.
func (k *Disk) tidy(stale []int) api.Errno {
	if k.pair() == api.ErrPower {
		return api.ErrPower
	}
	if k.read {
		return api.OK
	}
	var full []int
	for _, b := range stale {
		if k.places.Live(b) > 0 {
			full = append(full, b)
			continue
		}
		if k.pool.State(b) == pool.Free && k.wipe(b) == api.ErrPower {
			return api.ErrPower
		}
	}
	for _, b := range full {
		if err := k.empty(b); err != api.OK {
			return unlessRead(err)
		}
	}
	return api.OK
}

// unlessRead: a disk that can only be read is mounted all the same.
func unlessRead(err api.Errno) api.Errno {
	if err == api.ErrRead {
		return api.OK
	}
	return err
}

// empty: a block with pages that were given up is cleared, and erased.
func (k *Disk) empty(b int) api.Errno {
	if err := k.scrub(k.config.Shape.Blocks); err != api.OK {
		return err
	}
	if err := k.after(k.mover().Clear(b, nil), nil); err != api.OK {
		return err
	}
	k.mover().Free(b)
	return k.wipe(b)
}

// wipe: a free block is erased, and tells its wear.
func (k *Disk) wipe(b int) api.Errno {
	err := k.drive.Erase(b)
	if err == api.OK {
		k.pool.Worn(b, k.pool.Wear(b)+1)
		head := tag.Tag{Kind: tag.Head, Seq: uint64(k.pool.Wear(b)), Len: 1}
		_, err = k.drive.Program(b, head, strings.Repeat("\x00", k.config.Shape.Size))
	}
	if err == api.OK || err == api.ErrPower {
		return err
	}
	k.pool.Set(b, pool.Bad)
	return k.mark(b)
}

// heal: blocks that failed are cleared of what they have, and are in the table of bad ones then. One that there is no room to clear isn't: its pages are read where they are.
func (k *Disk) heal(besides move.Pages) api.Errno {
	for l := k.stream.Failed(); len(l) > 0; l = k.stream.Failed() {
		for _, b := range l {
			if k.retire(b, besides) == api.ErrPower {
				return api.ErrPower
			}
		}
	}
	return k.writable()
}

// retire: a block that failed is cleared, and in the table.
func (k *Disk) retire(b int, besides move.Pages) api.Errno {
	if k.safe() == api.ErrPower {
		return api.ErrPower
	}
	if err := k.mover().Clear(b, besides); err != api.OK {
		return k.stop(err)
	}
	return k.mark(b)
}

// mark: a block more is bad.
func (k *Disk) mark(b int) api.Errno {
	err := k.twin.Mark(b)
	k.learn()
	if err == api.ErrPower {
		return err
	}
	return k.pair()
}

// pair: the table of bad blocks is in two blocks, whichever fail, as long as there is one to be had.
func (k *Disk) pair() api.Errno {
	for len(k.twin.Blocks()) < geo.Tables {
		b, err := k.pool.Most()
		if err != api.OK {
			return k.stop(err)
		}
		err = k.twin.Join(b)
		k.learn()
		if err == api.ErrPower {
			return err
		}
	}
	return k.writable()
}

// writable: what is told where it can only be read.
func (k *Disk) writable() api.Errno {
	if k.read {
		return api.ErrRead
	}
	return api.OK
}

// ready: there is room for one page more, with as much in reserve as there must be.
func (k *Disk) ready(besides move.Pages) api.Errno {
	for victim.Short(k.pool, k.reserve()) {
		if err := k.safe(); err != api.OK {
			return err
		}
		ok, err := level.Win(k.mover(), besides, k.twin.Blocks()...)
		if err := k.after(err, besides); err != api.OK {
			return err
		}
		if !ok {
			break
		}
	}
	if k.stream.Room() > 0 {
		return api.OK
	}
	if err := k.safe(); err != api.OK {
		return err
	}
	_, err := level.Even(k.mover(), besides, k.config.Level, k.twin.Blocks()...)
	if err := k.after(err, besides); err != api.OK {
		return err
	}
	return k.safe()
}

// after: what is told behind a step, and what it left is healed.
func (k *Disk) after(err api.Errno, besides move.Pages) api.Errno {
	if k.stop(err) == api.ErrPower {
		return api.ErrPower
	}
	return k.heal(besides)
}
