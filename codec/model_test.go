package codec_test

import (
	"math/big"

	"arboretum/api"
)

// The chapter's words, done step by step with numbers of any size: what the package answers is held against it.

var base = big.NewInt(128)

func sevensOf(n *big.Int) string {
	n = new(big.Int).Set(n)
	l := []byte{}
	for {
		digit := new(big.Int)
		n.DivMod(n, base, digit)
		if n.Sign() == 0 {
			return string(append(l, byte(digit.Int64())))
		}
		l = append(l, byte(digit.Int64()+128))
	}
}

func zigzagOf(n int) *big.Int {
	z := new(big.Int).Mul(big.NewInt(int64(n)), big.NewInt(2))
	if n < 0 {
		z.Neg(z)
		z.Sub(z, big.NewInt(1))
	}
	return z
}

func laidNum(n int) string { return sevensOf(zigzagOf(n)) }

func laidCount(n int) string {
	if n < 0 {
		n = 0
	}
	return sevensOf(big.NewInt(int64(n)))
}

func laidText(s string) string { return laidCount(len(s)) + s }

func laidFlag(is bool) string {
	if is {
		return "\x01"
	}
	return "\x00"
}

// model is the reader of the chapter's words.
type model struct {
	text  string
	place int
	wrong api.Errno
}

func (m *model) sevens() *big.Int {
	n := new(big.Int)
	weight := big.NewInt(1)
	at := m.place
	for k := 1; m.wrong == api.OK; k++ {
		if at >= len(m.text) {
			m.wrong = api.ErrCodecShort
			break
		}
		b := m.text[at]
		at++
		if k == 10 && b > 1 {
			m.wrong = api.ErrCodecForm
			break
		}
		n.Add(n, new(big.Int).Mul(weight, big.NewInt(int64(b%128))))
		weight.Mul(weight, base)
		if b >= 128 {
			continue
		}
		if b == 0 && k > 1 {
			m.wrong = api.ErrCodecForm
			break
		}
		m.place = at
		return n
	}
	return new(big.Int)
}

func (m *model) num() int {
	z := m.sevens()
	if z.Bit(0) == 0 {
		return int(z.Rsh(z, 1).Int64())
	}
	z.Add(z, big.NewInt(1))
	return int(z.Neg(z.Rsh(z, 1)).Int64())
}

func (m *model) flag() bool {
	switch {
	case m.wrong != api.OK:
	case m.place >= len(m.text):
		m.wrong = api.ErrCodecShort
	case m.text[m.place] > 1:
		m.wrong = api.ErrCodecForm
	default:
		m.place++
		return m.text[m.place-1] == 1
	}
	return false
}

func (m *model) count(most int) int {
	if most < 0 {
		most = 0
	}
	n := m.sevens()
	if n.Cmp(big.NewInt(int64(most))) > 0 {
		m.wrong = api.ErrCodecLong
	}
	if m.wrong != api.OK {
		return 0
	}
	return int(n.Int64())
}

func (m *model) takeText(most int) string {
	n := m.count(most)
	if m.wrong != api.OK {
		return ""
	}
	if len(m.text)-m.place < n {
		m.wrong = api.ErrCodecShort
		return ""
	}
	m.place += n
	return m.text[m.place-n : m.place]
}

func (m *model) fail() {
	if m.wrong == api.OK {
		m.wrong = api.ErrCodecForm
	}
}

func (m *model) end() api.Errno {
	if m.wrong == api.OK && m.place != len(m.text) {
		m.wrong = api.ErrCodecForm
	}
	return m.wrong
}
