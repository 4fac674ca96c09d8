package disk

import (
	"tillroll/api"
	"tillroll/drive"
	"tillroll/pool"
	"tillroll/tag"
	"tillroll/where"
)

// survey: which blocks have no pages that a scan would count; and where all pages are that are as new as each logical one.
func (k *Disk) survey() ([][]where.Place, api.Errno) {
	s := k.config.Shape
	k.blank = make([]bool, s.Blocks)
	copies := make([][]where.Place, k.config.Logical)
	for b := range s.Blocks {
		k.blank[b] = true
		for i := range s.Pages {
			p, err := k.drive.Read(b, i)
			if err != api.OK {
				return nil, err
			}
			n := p.Tag.Logical
			if p.State != drive.Tagged || p.Tag.Kind != tag.Data || !k.known(n) {
				continue
			}
			k.blank[b] = false
			if p.Tag.Seq == k.seqs[n] && k.pool.State(b) != pool.Bad {
				copies[n] = append(copies[n], where.Place{Block: b, Page: i})
			}
		}
	}
	return copies, api.OK
}

// gather: as long as all logical pages of a block are in other blocks that are in use, too, they are there: that block isn't in use any more. So a block that was cleared in part, when the power was cut, takes no room twice.
func (k *Disk) gather(copies [][]where.Place) {
	for b := 0; b < k.config.Shape.Blocks; b++ {
		if k.leave(b, copies) {
			b = -1
		}
	}
}

// leave: a block's logical pages are elsewhere, if all of them may be.
func (k *Disk) leave(b int, copies [][]where.Place) bool {
	elsewhere := map[int]where.Place{}
	pages := k.places.Of(b)
	for _, i := range pages {
		n := k.places.Owner(where.Place{Block: b, Page: i})
		for _, p := range copies[n] {
			if p.Block != b && k.places.Live(p.Block) > 0 {
				elsewhere[n] = p
				break
			}
		}
	}
	if len(pages) == 0 || len(elsewhere) < len(pages) {
		return false
	}
	for n, p := range elsewhere {
		k.places.Put(n, p)
	}
	return true
}

// clean: is a free block without pages that a scan would count?
func (k *Disk) clean(b int) bool {
	next := k.drive.Next(b)
	return next == 0 || next == 1 || next < 0 && k.blank[b]
}

// scrub: so many of the free blocks are clean. Wherever the power is cut, these are free at the next mount, too, whatever copies the others have.
func (k *Disk) scrub(most int) api.Errno {
	dirty, left := []int{}, most
	for b := range k.config.Shape.Blocks {
		if k.pool.State(b) != pool.Free {
			continue
		}
		if k.clean(b) {
			left--
		} else {
			dirty = append(dirty, b)
		}
	}
	for _, b := range dirty {
		if left <= 0 {
			break
		}
		if err := k.wipe(b); err != api.OK {
			return err
		}
		if k.pool.State(b) == pool.Free {
			left--
		}
	}
	return api.OK
}
