// Package sheaf is what several layers do with the pages of a file: it cuts them apart, and holds their cells against what the footer tells of them.
package sheaf

import (
	"hypostyle/api"
	"hypostyle/page"
	"hypostyle/stat"
)

// Ahead is how many bytes of a file stand ahead of its pages.
const Ahead = 4

// Cut tells the pages of a file whose footer is f, group by group, column by column. All at once, since to look for the place of each alone takes a look at all of the footer. They are pieces of b: who asks hands on copies.
func Cut(b []byte, f api.Footer) [][][][]byte {
	at := Ahead
	out := make([][][][]byte, len(f.Groups))
	for g, group := range f.Groups {
		out[g] = make([][][]byte, len(group.Chunks))
		for c, infos := range group.Chunks {
			out[g][c] = make([][]byte, len(infos))
			for p, info := range infos {
				out[g][c][p] = b[at : at+info.Size]
				at += info.Size
			}
		}
	}
	return out
}

// Cells tells the cells of a page, if they are what is told of them.
func Cells(col api.Col, info api.PageInfo, b []byte) ([]api.Cell, bool) {
	l, err := page.Decode(col, b)
	if err != api.OK || len(b) != info.Size || len(l) != info.Rows || stat.Of(col.Type, l) != info.Stat {
		return nil, false
	}
	return l, true
}
