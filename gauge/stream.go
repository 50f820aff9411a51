package gauge

import (
	"math"

	"tideway/api"
)

const (
	magic   = "TIDE"
	minus   = 1 << 31 // the bits of -0
	inWord  = 4       // bytes of a number or a level
	inGap   = 2 * inWord
	inSizes = 3 * inWord // bytes of the start and both numbers of elements
)

// Encode returns the stream of a record.
func Encode(r Record) ([]byte, api.Errno) {
	if e := CheckRecord(r); e != api.OK {
		return nil, e
	}
	out := append([]byte(magic), byte(len(r.Name)))
	out = append(out, r.Name...)
	out = putWords(out, uint32(r.Start), uint32(len(r.Levels)), uint32(len(r.Gaps)))
	for _, g := range r.Gaps {
		out = putWords(out, uint32(g.From), uint32(g.To))
	}
	for _, x := range r.Levels {
		bits := math.Float32bits(x)
		if bits == minus {
			bits = 0
		}
		out = putWords(out, bits)
	}
	return out, api.OK
}

// putWords appends the bytes of words, the highest one first.
func putWords(out []byte, words ...uint32) []byte {
	for _, x := range words {
		out = append(out, byte(x>>24), byte(x>>16), byte(x>>8), byte(x))
	}
	return out
}

// wordAt returns the word with this index of a part of a stream.
func wordAt(s []byte, index int) uint32 {
	b := s[inWord*index : inWord*(index+1)]
	return uint32(b[0])<<24 | uint32(b[1])<<16 | uint32(b[2])<<8 | uint32(b[3])
}

// Decode returns the record of a stream.
func Decode(s []byte) (Record, api.Errno) {
	if len(s) > api.MaxStream {
		return Record{}, api.ErrLong
	}
	if len(s) < len(magic)+1 {
		return Record{}, api.ErrTorn
	}
	if string(s[:len(magic)]) != magic {
		return Record{}, api.ErrForm
	}
	inName := int(s[len(magic)])
	rest := s[len(magic)+1:]
	if len(rest) < inName+inSizes {
		return Record{}, api.ErrTorn
	}
	r := Record{Name: string(rest[:inName]), Start: int(wordAt(rest[inName:], 0))}
	levels := int(wordAt(rest[inName:], 1))
	gaps := int(wordAt(rest[inName:], 2))
	rest = rest[inName+inSizes:]
	if len(rest) < inGap*gaps+inWord*levels {
		return Record{}, api.ErrTorn
	}
	if len(rest) > inGap*gaps+inWord*levels {
		return Record{}, api.ErrShape
	}
	return decodeBody(r, rest[:inGap*gaps], rest[inGap*gaps:])
}

// decodeBody returns a record with the gaps and the levels of their parts of a stream.
func decodeBody(r Record, gaps, levels []byte) (Record, api.Errno) {
	for i := range len(gaps) / inGap {
		r.Gaps = append(r.Gaps, api.Span{From: int(wordAt(gaps, 2*i)), To: int(wordAt(gaps, 2*i+1))})
	}
	for i := range len(levels) / inWord {
		bits := wordAt(levels, i)
		if bits == minus {
			return Record{}, api.ErrForm
		}
		r.Levels = append(r.Levels, math.Float32frombits(bits))
	}
	if e := CheckRecord(r); e != api.OK {
		return Record{}, e
	}
	return r, api.OK
}
