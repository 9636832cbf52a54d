package seal_test

import (
	"bytes"
	"math"
	"testing"

	"medlar/api"
	"medlar/mix"
	"medlar/seal"
)

const ones = math.MaxUint64

var (
	allOnes = api.Block{ones, ones}
	rising  = api.Block{0x0123456789abcdef, 0xfedcba9876543210}
	edges   = api.Block{1, 1 << 63}
)

// known are keys, blocks, and what these are wrapped with those, worked out of the chapters' words apart from the packages.
var known = []struct {
	key, b api.Block
	s      api.Sealed
}{
	{api.Block{}, api.Block{}, api.Sealed{C: api.Block{0x2d9c5e2bc627663f, 0x129e4502a418020a}, T: api.Block{0x3a0cfc909ad53ff5, 0xac72aab09035e7b4}}},
	{api.Block{}, allOnes, api.Sealed{C: api.Block{0xd263a1d439d899c0, 0xed61bafd5be7fdf5}, T: api.Block{0x516806c4dd40afa1, 0xeee757861a43cd97}}},
	{api.Block{}, rising, api.Sealed{C: api.Block{0x2cbf1b4c4f8cabd0, 0xec42ff9ad24c301a}, T: api.Block{0xa9d8bda0ffe7cf58, 0x37ed20f59a6f0b01}}},
	{api.Block{}, edges, api.Sealed{C: api.Block{0x2d9c5e2bc627663e, 0x929e4502a418020a}, T: api.Block{0x5f03b0df564421cf, 0xfb28f852990f4067}}},
	{allOnes, api.Block{}, api.Sealed{C: api.Block{0xea3b6ece363dadcd, 0xa8952bff64fa9f6d}, T: api.Block{0xe5cdba26f767284d, 0x5ca26b8c75740b70}}},
	{allOnes, allOnes, api.Sealed{C: api.Block{0x15c49131c9c25232, 0x576ad4009b056092}, T: api.Block{0xa12503b0d22c7905, 0xd85e80be600743f2}}},
	{allOnes, rising, api.Sealed{C: api.Block{0xeb182ba9bf966022, 0x5649916712aead7d}, T: api.Block{0x3f90b4c9d7de9531, 0xdd0a4d0a23c175b0}}},
	{allOnes, edges, api.Sealed{C: api.Block{0xea3b6ece363dadcc, 0x28952bff64fa9f6d}, T: api.Block{0x7348bcdcf7af8980, 0x3bb0f2eae5f5bccd}}},
	{rising, api.Block{}, api.Sealed{C: api.Block{0xe1fdc1e367da533e, 0x9be7a6caa5635c1}, T: api.Block{0xfb990e52d2959145, 0xc96cfe0f1fd3a723}}},
	{rising, allOnes, api.Sealed{C: api.Block{0x1e023e1c9825acc1, 0xf641859355a9ca3e}, T: api.Block{0x1202e5481ab862aa, 0xc4833bffcba72cab}}},
	{rising, rising, api.Sealed{C: api.Block{0xe0de8484ee719ed1, 0xf762c0f4dc0207d1}, T: api.Block{0xc46097a13e53d6c5, 0x100566c2b2c4dc28}}},
	{rising, edges, api.Sealed{C: api.Block{0xe1fdc1e367da533f, 0x89be7a6caa5635c1}, T: api.Block{0x3c7ba78f29769595, 0xd9f5077da516ed20}}},
	{edges, api.Block{}, api.Sealed{C: api.Block{0xe63aa1ae910c8fb3, 0x89de0791d2315407}, T: api.Block{0x78e7b9a2c5e0c2e0, 0x14cf522a79294770}}},
	{edges, allOnes, api.Sealed{C: api.Block{0x19c55e516ef3704c, 0x7621f86e2dceabf8}, T: api.Block{0xe3ed5fd9392d6348, 0x801517b48210509f}}},
	{edges, rising, api.Sealed{C: api.Block{0xe719e4c918a7425c, 0x7702bd09a4656617}, T: api.Block{0x78d2d39125d16655, 0x3bdedac613c86ed1}}},
	{edges, edges, api.Sealed{C: api.Block{0xe63aa1ae910c8fb2, 0x09de0791d2315407}, T: api.Block{0xf7dac1cae54c3c48, 0x1907897612d8ea6b}}},
	// the block is the key's part MaskP, and C is all zeros
	{api.Block{}, api.Block{0x2d9c5e2bc627663f, 0x129e4502a418020a}, api.Sealed{T: api.Block{0xe6143e605a1ab0a6, 0x4e802a598ad093f5}}},
	{allOnes, api.Block{0xea3b6ece363dadcd, 0xa8952bff64fa9f6d}, api.Sealed{T: api.Block{0x9217c0fd487e3f0d, 0x68e5377826522001}}},
}

// blocks are those of all zeros, of all ones, each with one bit, each with all bits but one, and the known ones.
func blocks() []api.Block {
	l := []api.Block{{}, allOnes, {ones, 0}, {0, ones}, rising, edges}
	for k := range 128 {
		l = append(l, turned(api.Block{}, k), turned(allOnes, k))
	}
	return l
}

// turned is a block with another bit k.
func turned(b api.Block, k int) api.Block {
	b[k/64] ^= 1 << (k % 64)
	return b
}

// stepped is a text of n octets, no two neighbours the same.
func stepped(n int) []byte {
	text := make([]byte, n)
	for k := range text {
		text[k] = byte(7*k + 1)
	}
	return text
}

func part(t *testing.T, b api.Block, i int) api.Block {
	t.Helper()
	p, e := mix.Part(b, i)
	if e != api.OK {
		t.Fatalf("Part(%x, %d): %d", b, i, e)
	}
	return p
}

// refused tells of an Unwrap that is not ErrTag, and nothing.
func refused(t *testing.T, key api.Block, s api.Sealed) {
	t.Helper()
	if b, e := seal.Unwrap(key, s); b != (api.Block{}) || e != api.ErrTag {
		t.Errorf("Unwrap(%x, %x) = %x, %d", key, s, b, e)
	}
}

func TestWrapOfKnownBlocks(t *testing.T) { // P4.1, P4.2
	for _, x := range known {
		if s := seal.Wrap(x.key, x.b); s != x.s {
			t.Errorf("Wrap(%x, %x) = %x", x.key, x.b, s)
		}
		if tag := seal.Tag(x.key, x.s.C); tag != x.s.T {
			t.Errorf("Tag(%x, %x) = %x", x.key, x.s.C, tag)
		}
		if b, e := seal.Unwrap(x.key, x.s); b != x.b || e != api.OK {
			t.Errorf("Unwrap(%x, %x) = %x, %d", x.key, x.s, b, e)
		}
	}
}

func TestTagIsAFoldIntoThePart(t *testing.T) { // P4.1
	for _, key := range blocks() {
		from := part(t, key, api.TagP)
		for _, c := range []api.Block{{}, allOnes, rising, edges, key, from} {
			want, _ := mix.Fold(from, mix.Octets(c))
			if tag := seal.Tag(key, c); tag != want {
				t.Errorf("Tag(%x, %x) = %x", key, c, tag)
			}
		}
	}
}

func TestWrapIsMaskedAndTagged(t *testing.T) { // P4.1
	for _, key := range blocks() {
		mask := part(t, key, api.MaskP)
		for _, b := range []api.Block{{}, allOnes, rising, edges, key, mask} {
			c := mix.Xor(b, mask)
			if s := seal.Wrap(key, b); s != (api.Sealed{C: c, T: seal.Tag(key, c)}) {
				t.Errorf("Wrap(%x, %x) = %x", key, b, s)
			}
		}
	}
}

func TestWhatIsWrappedIsTakenOut(t *testing.T) { // P4.2, P4.4
	for _, key := range []api.Block{{}, allOnes, rising, edges, {1, 0}, {0, 1}} {
		for _, b := range append(blocks(), key) {
			if got, e := seal.Unwrap(key, seal.Wrap(key, b)); got != b || e != api.OK {
				t.Errorf("%x, wrapped with %x, taken out: %x, %d", b, key, got, e)
			}
		}
	}
	for _, b := range blocks() { // a key that is the block itself
		if got, e := seal.Unwrap(b, seal.Wrap(b, b)); got != b || e != api.OK {
			t.Errorf("%x, wrapped with itself, taken out: %x, %d", b, got, e)
		}
	}
}

func TestWhatIsTakenOutIsWrappedAgain(t *testing.T) { // P4.2, P4.4
	for _, key := range []api.Block{{}, allOnes, rising, edges} {
		for _, c := range append(blocks(), key, part(t, key, api.MaskP), part(t, key, api.TagP)) {
			s := api.Sealed{C: c, T: seal.Tag(key, c)}
			b, e := seal.Unwrap(key, s)
			if b != mix.Xor(c, part(t, key, api.MaskP)) || e != api.OK {
				t.Errorf("Unwrap(%x, %x) = %x, %d", key, s, b, e)
			}
			if again := seal.Wrap(key, b); again != s {
				t.Errorf("%x, taken out with %x, wrapped again: %x", s, key, again)
			}
		}
	}
}

func TestATagOfAllZerosIsATag(t *testing.T) { // P4.2
	for _, key := range []api.Block{{}, allOnes, rising, edges} {
		c := mix.Xor(part(t, key, api.TagP), mix.Unmix(api.Block{}))
		want := mix.Xor(c, part(t, key, api.MaskP))
		if b, e := seal.Unwrap(key, api.Sealed{C: c}); b != want || e != api.OK {
			t.Errorf("Unwrap(%x, %x without a tag) = %x, %d", key, c, b, e)
		}
	}
}

func TestOneOtherBitIsRefused(t *testing.T) { // P4.2
	for _, x := range known {
		for k := range 128 {
			refused(t, x.key, api.Sealed{C: x.s.C, T: turned(x.s.T, k)})
			refused(t, x.key, api.Sealed{C: turned(x.s.C, k), T: x.s.T})
			refused(t, turned(x.key, k), x.s)
		}
	}
}

func TestOtherTagsAreRefused(t *testing.T) { // P4.2
	for _, x := range known {
		for _, tag := range []api.Block{{}, allOnes, x.key, x.b, {x.s.T[1], x.s.T[0]}, {x.s.T[0], 0}, {0, x.s.T[1]}} {
			refused(t, x.key, api.Sealed{C: x.s.C, T: tag})
		}
		refused(t, x.key, api.Sealed{})
		refused(t, x.key, api.Sealed{C: x.s.T, T: x.s.C})
		for _, y := range known {
			if y.s != x.s { // the tag of another block, or of another key
				refused(t, x.key, api.Sealed{C: x.s.C, T: y.s.T})
			}
		}
	}
}

func TestAnotherKeyTakesNothingOut(t *testing.T) { // P4.2
	for _, key := range blocks() {
		for _, x := range known {
			if key != x.key {
				refused(t, key, x.s)
			}
		}
	}
}

func TestNoTwoBlocksAreWrappedTheSame(t *testing.T) { // P4.4
	for _, key := range []api.Block{{}, allOnes, rising, edges} {
		cs := map[api.Block]api.Block{}
		tags := map[api.Block]api.Block{}
		for _, b := range blocks() {
			s := seal.Wrap(key, b)
			if other, is := cs[s.C]; is && other != b {
				t.Errorf("%x and %x, wrapped with %x, have the same C", b, other, key)
			}
			if other, is := tags[s.T]; is && other != b {
				t.Errorf("%x and %x, wrapped with %x, have the same tag", b, other, key)
			}
			cs[s.C], tags[s.T] = b, b
		}
	}
}

func TestOctetsOfCAndThenOfT(t *testing.T) { // P4.3
	s := api.Sealed{C: api.Block{0x0807060504030201, 0x100f0e0d0c0b0a09}, T: api.Block{0x1817161514131211, 0x201f1e1d1c1b1a19}}
	counted := make([]byte, 32)
	for k := range counted {
		counted[k] = byte(k + 1)
	}
	for _, x := range []struct {
		s    api.Sealed
		text []byte
	}{
		{s, counted},
		{api.Sealed{}, make([]byte, 32)},
		{api.Sealed{C: allOnes, T: allOnes}, bytes.Repeat([]byte{255}, 32)},
		{api.Sealed{C: allOnes}, append(bytes.Repeat([]byte{255}, 16), make([]byte, 16)...)},
		{api.Sealed{T: allOnes}, append(make([]byte, 16), bytes.Repeat([]byte{255}, 16)...)},
	} {
		if o := seal.Octets(x.s); !bytes.Equal(o, x.text) {
			t.Errorf("Octets(%x) = %v", x.s, o)
		}
		if got, e := seal.Of(x.text); got != x.s || e != api.OK {
			t.Errorf("Of(%v) = %x, %d", x.text, got, e)
		}
	}
	for k := range 32 {
		text := make([]byte, 32)
		text[k] = 0x81
		var two [2]api.Block
		two[k/16][k/8%2] = 0x81 << (k % 8 * 8)
		if got, e := seal.Of(text); got != (api.Sealed{C: two[0], T: two[1]}) || e != api.OK || !bytes.Equal(seal.Octets(got), text) {
			t.Errorf("Of(%v) = %x, %d", text, got, e)
		}
	}
}

func TestOfReadsWhatOctetsWrote(t *testing.T) { // P4.3
	for _, x := range known {
		text := seal.Octets(x.s)
		if got, e := seal.Of(text); got != x.s || e != api.OK {
			t.Errorf("Of the octets of %x = %x, %d", x.s, got, e)
		}
	}
	text := stepped(32) // what is read needs no tag of any key
	got, e := seal.Of(text)
	if e != api.OK || !bytes.Equal(seal.Octets(got), text) {
		t.Errorf("Of(%v) = %x, %d", text, got, e)
	}
	if behind, e := seal.Of(stepped(64)[:32]); behind != got || e != api.OK {
		t.Errorf("with octets behind it: %x, %d", behind, e)
	}
}

func TestOfOctetsThatAreNotThirtyTwo(t *testing.T) { // P4.3
	if s, e := seal.Of(nil); s != (api.Sealed{}) || e != api.ErrForm {
		t.Errorf("Of(nil) = %x, %d", s, e)
	}
	for _, n := range []int{0, 1, 8, 15, 16, 17, 24, 31, 33, 48, 64, 256, 288, api.MaxText, api.MaxText + 32, 1 << 20} {
		for _, text := range [][]byte{stepped(n), stepped(n + 64)[:n]} {
			if s, e := seal.Of(text); s != (api.Sealed{}) || e != api.ErrForm {
				t.Errorf("Of(%d octets) = %x, %d", n, s, e)
			}
		}
	}
}

func TestTextsStayAsTheyWere(t *testing.T) { // R2
	for n := range 65 {
		behind := stepped(80)
		seal.Of(behind[:n])
		if !bytes.Equal(behind, stepped(80)) {
			t.Errorf("%d octets: what was handed in, or what is behind it, was changed", n)
		}
	}
}

func TestWhatIsAnsweredIsNew(t *testing.T) { // R2
	s := known[0].s
	first, second := seal.Octets(s), seal.Octets(s)
	for k := range first {
		first[k] = 99
	}
	if got, e := seal.Of(second); got != s || e != api.OK {
		t.Errorf("octets told before are now of %x, %d", got, e)
	}
	if got, e := seal.Of(seal.Octets(s)); got != s || e != api.OK {
		t.Errorf("octets told again are of %x, %d", got, e)
	}
	text := stepped(32)
	of, _ := seal.Of(text)
	for k := range text {
		text[k] = 99
	}
	if !bytes.Equal(seal.Octets(of), stepped(32)) {
		t.Errorf("what was read is now %x", of)
	}
}
