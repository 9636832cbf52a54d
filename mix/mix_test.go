package mix_test

import (
	"bytes"
	"math"
	"slices"
	"testing"

	"medlar/api"
	"medlar/mix"
)

const ones = math.MaxUint64

// known are blocks, their Mix, and their parts LeftP to TagP, worked out of the chapter's words apart from the package.
var known = []struct {
	b, mixed api.Block
	parts    [5]api.Block
}{
	{
		api.Block{0, 0}, api.Block{0x15439f26e06f2bfd, 0xa81471cfb1714d56},
		[5]api.Block{{0xde8c72a84e971a0b, 0x823242cd8da372ae}, {0x25ab174d59abcd13, 0xe49772087cb4a098}, {0xfcfa2681a25354b6, 0xc06a9384e0f4bb66}, {0x2d9c5e2bc627663f, 0x129e4502a418020a}, {0x9b09fbd827f5d4d3, 0xd04e1a424fea1020}},
	},
	{
		api.Block{ones, ones}, api.Block{0x736a13b05379cad5, 0x32ae01cd4bafaf65},
		[5]api.Block{{0x8ae4c51cad3ad865, 0xc940e171b6345545}, {0x709685e8d3bc3763, 0x475163f1bcc2a0cf}, {0x1e1642a7b3a00e04, 0x2113259ad31b7bb8}, {0xea3b6ece363dadcd, 0xa8952bff64fa9f6d}, {0xd44f188b83dc128, 0x4c64e2f9b0b355c8}},
	},
	{
		api.Block{0, 1}, api.Block{0xd4e40b60c7954d7e, 0xcfa1fc2ee53d10d9},
		[5]api.Block{{0x5ff7a3a849a5df7, 0x1ea71d78e5c642c2}, {0xf30cb67e22e26ef9, 0xec6ccc937ed6b048}, {0xc53269b844437e86, 0xe0cc614764575ea7}, {0xe31bc405cdfc43c, 0xe08e10c242a0142e}, {0x86310fcd443d631c, 0x7432e19c60ae3c09}},
	},
	{ // the sum of the first round goes around to 0
		api.Block{ones, 1}, api.Block{0x8007cad606ead518, 0x9ac7f8c71bbcbb72},
		[5]api.Block{{0x5fa8d009b2b5db67, 0x57704008d524b451}, {0xe5e35620f0567429, 0x52792658061f60d9}, {0x572f95331cf8921c, 0x5015002256a1f1ee}, {0x638f0eeb37edaf98, 0x7c0e7b8251fd164b}, {0x5d383c49b91dccf7, 0x54204348d30ca9c1}},
	},
	{
		api.Block{1 << 63, 1 << 63}, api.Block{0x644816c59d3f22cd, 0xa06ff36ca2994cc6},
		[5]api.Block{{0x4077aec9c62d542d, 0xc47113504b43f666}, {0x3ef02471fb3ecee6, 0x7df44004b0f9bd8b}, {0xc7cfcc1402695443, 0xd96ba8c4d9a8b1fa}, {0x43398af2fbc6e57d, 0x67bb83c5e4e3dea5}, {0x899b9f7c03f5a9b, 0xe73612f1e3e095d5}},
	},
	{
		api.Block{0x0123456789abcdef, 0xfedcba9876543210}, api.Block{0x10e8a91d3b0c8f7d, 0xf4b39e2c6485471d},
		[5]api.Block{{0x2a876d5bd5dace06, 0xaa3a5b97530f5b2}, {0x153ee5f5771c01b5, 0xb7827dbd2323734}, {0xd1af8af1323268e, 0xc2dc9e91b640dc3d}, {0xe1fdc1e367da533e, 0x9be7a6caa5635c1}, {0x2a8f6775d564c10e, 0xa1ba497754ef44a}},
	},
}

// blocks are those of all zeros, of all ones, each with one bit, and each with all bits but one.
func blocks() []api.Block {
	l := []api.Block{{}, {ones, ones}, {ones, 0}, {0, ones}}
	for k := range 64 {
		bit := uint64(1) << k
		l = append(l, api.Block{bit}, api.Block{0, bit}, api.Block{ones &^ bit, ones}, api.Block{ones, ones &^ bit})
	}
	for _, x := range known {
		l = append(l, x.b)
	}
	return l
}

// stepped is a text of n octets, no two neighbours the same.
func stepped(n int) []byte {
	text := make([]byte, n)
	for k := range text {
		text[k] = byte(7*k + 1)
	}
	return text
}

func TestMixIsTheEightRounds(t *testing.T) { // P3.1
	for _, x := range known {
		if m := mix.Mix(x.b); m != x.mixed {
			t.Errorf("Mix(%x) = %x", x.b, m)
		}
		if b := mix.Unmix(x.mixed); b != x.b {
			t.Errorf("Unmix(%x) = %x", x.mixed, b)
		}
	}
}

func TestUnmixTakesMixBack(t *testing.T) { // P3.1, P3.4
	for _, b := range blocks() {
		if u := mix.Unmix(mix.Mix(b)); u != b {
			t.Errorf("Unmix of Mix(%x) = %x", b, u)
		}
		if m := mix.Mix(mix.Unmix(b)); m != b {
			t.Errorf("Mix of Unmix(%x) = %x", b, m)
		}
	}
}

func TestNoTwoBlocksHaveOneMix(t *testing.T) { // P3.4
	seen := map[api.Block]api.Block{}
	for x := range uint64(64) {
		for y := range uint64(64) {
			for _, b := range []api.Block{{x, y}, {ones - x, y}, {x, ones - y}, {x << 58, y << 58}} {
				m := mix.Mix(b)
				if other, is := seen[m]; is && other != b {
					t.Errorf("Mix(%x) and Mix(%x) are %x", b, other, m)
				}
				seen[m] = b
			}
		}
	}
}

func TestXorIsNumberByNumber(t *testing.T) { // P3.1
	for _, x := range []struct{ a, b, want api.Block }{
		{api.Block{}, api.Block{}, api.Block{}},
		{api.Block{12, 10}, api.Block{10, 9}, api.Block{6, 3}},
		{api.Block{ones, 0}, api.Block{1, 1}, api.Block{ones - 1, 1}},
		{api.Block{ones, ones}, api.Block{ones, ones}, api.Block{}},
		{api.Block{1 << 63, 1}, api.Block{1, 1 << 63}, api.Block{1<<63 + 1, 1<<63 + 1}},
	} {
		if c := mix.Xor(x.a, x.b); c != x.want || mix.Xor(x.b, x.a) != x.want {
			t.Errorf("Xor(%x, %x) = %x", x.a, x.b, c)
		}
	}
	for _, b := range blocks() {
		if mix.Xor(b, b) != (api.Block{}) || mix.Xor(b, api.Block{}) != b {
			t.Errorf("Xor of %x with itself, or with nothing", b)
		}
	}
}

func TestPartsOfABlock(t *testing.T) { // P3.2
	for _, x := range known {
		for i, want := range x.parts {
			if p, e := mix.Part(x.b, i); p != want || e != api.OK {
				t.Errorf("Part(%x, %d) = %x, %d", x.b, i, p, e)
			}
		}
	}
	for _, b := range blocks() {
		for i := api.LeftP; i <= api.TagP; i++ {
			want := mix.Xor(mix.Mix(api.Block{b[0] ^ uint64(i+1), b[1]}), b)
			if p, e := mix.Part(b, i); p != want || e != api.OK {
				t.Errorf("Part(%x, %d) = %x, %d", b, i, p, e)
			}
		}
	}
}

func TestNoSuchPart(t *testing.T) { // P3.2
	for _, i := range []int{math.MinInt, -1 << 32, -6, -2, -1, 5, 6, 256, 1 << 32, math.MaxInt} {
		for _, b := range blocks() {
			if p, e := mix.Part(b, i); p != (api.Block{}) || e != api.ErrArg {
				t.Errorf("Part(%x, %d) = %x, %d", b, i, p, e)
			}
		}
	}
}

func TestFoldOfKnownTexts(t *testing.T) { // P3.2
	for n, want := range map[int]api.Block{
		0:           {3, 5},
		1:           {0x47ba6b3543b74724, 0xbfde428fc0741e69},
		15:          {0x4b94cf7204ed5bd1, 0x6a6e2a76f99bfe57},
		16:          {0x2b8f481e7de6b0f7, 0xf1024f40e1dbdcd8},
		17:          {0xd224f9defed4f6d1, 0x30fcd2b41fcec511},
		32:          {0xa24b2225daa211d6, 0xf6bd7cbd1b08933a},
		33:          {0xc37e536ab3e70a2, 0x2213073284ce742e},
		api.MaxText: {0xac617d53c8ad9c70, 0xdd0fa0be523c190b},
	} {
		if f, e := mix.Fold(api.Block{3, 5}, stepped(n)); f != want || e != api.OK {
			t.Errorf("Fold of %d octets = %x, %d", n, f, e)
		}
	}
}

func TestFoldIsSixteenBySixteen(t *testing.T) { // P3.2
	for n := range 70 {
		text := stepped(n)
		for _, b := range blocks() {
			want := b
			padded := append(bytes.Clone(text), make([]byte, (16-n%16)%16)...)
			for from := 0; from < len(padded); from += 16 {
				piece, _ := mix.Of(padded[from : from+16])
				want = mix.Mix(mix.Xor(want, piece))
			}
			if f, e := mix.Fold(b, text); f != want || e != api.OK {
				t.Errorf("Fold(%x, %d octets) = %x, %d", b, n, f, e)
			}
		}
	}
}

func TestFoldOfNoText(t *testing.T) { // P3.2
	for _, b := range blocks() {
		for _, text := range [][]byte{nil, {}} {
			if f, e := mix.Fold(b, text); f != b || e != api.OK {
				t.Errorf("Fold(%x, no text) = %x, %d", b, f, e)
			}
		}
	}
}

func TestFoldOfATextThatIsTooLong(t *testing.T) { // P3.2
	for _, n := range []int{api.MaxText + 1, api.MaxText + 16, 2 * api.MaxText, 1 << 20} {
		for _, b := range []api.Block{{}, {1, 2}, {ones, ones}} {
			if f, e := mix.Fold(b, make([]byte, n)); f != (api.Block{}) || e != api.ErrLong {
				t.Errorf("Fold(%x, %d octets) = %x, %d", b, n, f, e)
			}
		}
	}
}

func TestNoTwoBlocksHaveOneFold(t *testing.T) { // P3.4
	for _, n := range []int{0, 1, 15, 16, 17, 32, 100} {
		text := stepped(n)
		seen := map[api.Block]api.Block{}
		for _, b := range blocks() {
			f, _ := mix.Fold(b, text)
			if other, is := seen[f]; is && other != b {
				t.Errorf("Folds of %d octets into %x and %x are %x", n, b, other, f)
			}
			seen[f] = b
		}
	}
}

func TestFoldOfWholeSixteensAndThenTheRest(t *testing.T) { // P3.4
	b := api.Block{ones, 7}
	for n := range 100 {
		text := stepped(n)
		want, _ := mix.Fold(b, text)
		for from := 0; from <= n; from += 16 {
			first, _ := mix.Fold(b, text[:from])
			if f, e := mix.Fold(first, text[from:]); f != want || e != api.OK {
				t.Errorf("%d octets, and then %d: %x, %d", from, n-from, f, e)
			}
		}
	}
	long := stepped(api.MaxText)
	want, _ := mix.Fold(b, long)
	first, _ := mix.Fold(b, long[:api.MaxText-16])
	if f, _ := mix.Fold(first, long[api.MaxText-16:]); f != want {
		t.Errorf("got %x", f)
	}
}

func TestOctetsTheLowestFirst(t *testing.T) { // P3.3
	for _, x := range []struct {
		b    api.Block
		text []byte
	}{
		{api.Block{}, make([]byte, 16)},
		{api.Block{ones, ones}, bytes.Repeat([]byte{255}, 16)},
		{api.Block{1, 0}, []byte{1, 0, 0, 0, 0, 0, 0, 0, 0, 0, 0, 0, 0, 0, 0, 0}},
		{api.Block{0, 1 << 63}, []byte{0, 0, 0, 0, 0, 0, 0, 0, 0, 0, 0, 0, 0, 0, 0, 128}},
		{api.Block{0x0807060504030201, 0x100f0e0d0c0b0a09}, []byte{1, 2, 3, 4, 5, 6, 7, 8, 9, 10, 11, 12, 13, 14, 15, 16}},
	} {
		if o := mix.Octets(x.b); !bytes.Equal(o, x.text) {
			t.Errorf("Octets(%x) = %v", x.b, o)
		}
		if b, e := mix.Of(x.text); b != x.b || e != api.OK {
			t.Errorf("Of(%v) = %x, %d", x.text, b, e)
		}
	}
	for _, b := range blocks() {
		if o, e := mix.Of(mix.Octets(b)); o != b || e != api.OK {
			t.Errorf("Of the octets of %x = %x, %d", b, o, e)
		}
	}
	for k := range 16 {
		text := make([]byte, 16)
		text[k] = 0x81
		var want api.Block
		want[k/8] = 0x81 << (k % 8 * 8)
		if b, e := mix.Of(text); b != want || e != api.OK || !bytes.Equal(mix.Octets(b), text) {
			t.Errorf("Of(%v) = %x, %d", text, b, e)
		}
	}
}

func TestOfOctetsThatAreNotSixteen(t *testing.T) { // P3.3
	if b, e := mix.Of(nil); b != (api.Block{}) || e != api.ErrForm {
		t.Errorf("Of(nil) = %x, %d", b, e)
	}
	for _, n := range []int{0, 1, 8, 15, 17, 24, 32, 256, 272, api.MaxText, api.MaxText + 16} {
		if b, e := mix.Of(stepped(n)); b != (api.Block{}) || e != api.ErrForm {
			t.Errorf("Of(%d octets) = %x, %d", n, b, e)
		}
	}
}

func TestTextsStayAsTheyWere(t *testing.T) { // R2
	for n := range 40 {
		behind := stepped(64)
		text := behind[:n]
		before := slices.Clone(behind)
		mix.Fold(api.Block{1, 2}, text)
		mix.Of(text)
		if !bytes.Equal(behind, before) {
			t.Errorf("%d octets: what was handed in, or what is behind it, was changed", n)
		}
	}
}

func TestOctetsAreNew(t *testing.T) { // R2
	b := api.Block{5, 6}
	first, second := mix.Octets(b), mix.Octets(b)
	for k := range first {
		first[k] = 99
	}
	if x, e := mix.Of(second); x != b || e != api.OK {
		t.Errorf("got %x, %d", x, e)
	}
	if x, _ := mix.Of(mix.Octets(b)); x != b {
		t.Errorf("got %x", x)
	}
	text := stepped(16)
	of, _ := mix.Of(text)
	text[0] = 99
	if !bytes.Equal(mix.Octets(of), stepped(16)) {
		t.Errorf("got %v", mix.Octets(of))
	}
}
