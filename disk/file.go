package disk

// file is bytes, of which the first ones are firm and the others loose.
type file struct {
	bytes []byte
	firm  int // how many are firm
}

// add puts the parts' bytes behind, loose.
func (f *file) add(parts [][]byte) {
	for _, part := range parts {
		f.bytes = append(f.bytes, part...)
	}
}

// cut takes away the bytes behind the first size ones.
func (f *file) cut(size int) {
	f.bytes = f.bytes[:size]
	f.firm = min(f.firm, size)
}

// settle makes all bytes firm.
func (f *file) settle() {
	f.firm = len(f.bytes)
}

// loose is how many bytes are loose.
func (f *file) loose() int {
	return len(f.bytes) - f.firm
}
