// Package vint puts numbers, texts and hashes into bytes, and reads them strictly: a row has one form, and no other is read.
package vint

import (
	"bytes"

	"affiant/api"
)

// longest: bytes of MaxNumber, whose 40 bits go by sevens.
const longest = 6

// Put is the bytes of the numbers, one behind the other; those that aren't 0 to MaxNumber have none.
func Put(ns ...int) []byte {
	var b []byte
	for _, n := range ns {
		b = put(b, n)
	}
	return b
}

func put(b []byte, n int) []byte {
	if n < 0 || n > api.MaxNumber {
		return b
	}
	for ; n > 127; n >>= 7 {
		b = append(b, byte(n)|128)
	}
	return append(b, byte(n))
}

// Text is the bytes of the texts, each behind its length: without it, one couldn't tell where a text ends.
func Text(ss ...string) []byte {
	var b []byte
	for _, s := range ss {
		b = put(b, len(s))
		b = append(b, s...)
	}
	return b
}

// Hash is the bytes of the hashes: all are of one length, which is therefore not told.
func Hash(hs ...api.Hash) []byte {
	var b []byte
	for _, h := range hs {
		b = append(b, h[:]...)
	}
	return b
}

// Reader reads bytes from their beginning on. Once something isn't there as it should be, nothing more is.
type Reader struct {
	rest []byte
	bad  bool
}

// Read is a Reader of a copy of b: what becomes of b later is not seen.
func Read(b []byte) *Reader {
	return &Reader{rest: bytes.Clone(b)}
}

// Number is the number that stands next, or 0.
func (r *Reader) Number() int {
	n, size := number(r.rest)
	if size == 0 {
		r.fail()
		return 0
	}
	r.take(size)
	return n
}

// number is the number at b's beginning, and how many bytes it has there: 0, if there is none that Put would have put.
func number(b []byte) (n, size int) {
	for i, c := range b[:min(len(b), longest)] {
		n |= int(c&127) << (7 * i)
		if c > 127 {
			continue
		}
		// A last byte of 0 adds nothing: without it the form is shorter.
		if i > 0 && c == 0 || n > api.MaxNumber {
			return 0, 0
		}
		return n, i + 1
	}
	return 0, 0
}

// Text is the text that stands next, or "".
func (r *Reader) Text() string {
	return string(r.take(r.Number()))
}

// Hash is the hash that stands next, or the zero one.
func (r *Reader) Hash() api.Hash {
	var h api.Hash
	copy(h[:], r.take(len(h)))
	return h
}

// take is the next n bytes, or none, if there are fewer.
func (r *Reader) take(n int) []byte {
	if n > len(r.rest) {
		r.fail()
		return nil
	}
	b := r.rest[:n]
	r.rest = r.rest[n:]
	return b
}

// fail drops the rest, so that all that is asked from then on isn't there either.
func (r *Reader) fail() {
	r.rest, r.bad = nil, true
}

// Good tells whether all that was asked was there.
func (r *Reader) Good() bool {
	return !r.bad
}

// Done tells whether all that was asked was there, and nothing is left.
func (r *Reader) Done() bool {
	return !r.bad && len(r.rest) == 0
}
