package paper

import (
	"crypto/ed25519"
	"encoding/binary"
	"strings"
	"testing"

	"postern/api"
	"postern/signing"
)

var seed = strings.Repeat("p", signing.SeedSize)

// byLibrary: the text with the signature that the library puts behind it.
func byLibrary(text string) string {
	return text + string(ed25519.Sign(ed25519.NewKeyFromSeed([]byte(seed)), []byte(text)))
}

func TestTicketThereAndBack(t *testing.T) {
	for _, c := range []api.Ticket{{}, {Epoch: 1}, {Serial: 1}, {Class: 1}, {Epoch: 256, Serial: 1 << 24, Class: 128}, {Epoch: 0x8001, Serial: 0x80402010, Class: 7},
		{Epoch: api.MaxEpoch}, {Serial: api.MaxSerial}, {Class: api.MaxClass}, {Epoch: api.MaxEpoch, Serial: api.MaxSerial, Class: api.MaxClass}} {
		head := binary.BigEndian.AppendUint16([]byte("T"), uint16(c.Epoch))
		head = append(binary.BigEndian.AppendUint32(head, uint32(c.Serial)), byte(c.Class))
		text := Ticket(seed, c)
		if text != byLibrary(string(head)) || len(text) != 72 {
			t.Errorf("P5: Ticket(%+v) = %x", c, text)
		}
		if got, ok := ReadTicket(text); got != c || !ok {
			t.Errorf("P6: ReadTicket(%x) = %+v, %v", text, got, ok)
		}
	}
}

func TestOrderThereAndBack(t *testing.T) {
	for _, epoch := range []int{0, 1, 255, 256, 258, 32768, api.MaxEpoch} {
		text := Order(seed, epoch)
		if text != byLibrary(string(binary.BigEndian.AppendUint16([]byte("C"), uint16(epoch)))) || len(text) != 67 {
			t.Errorf("P5: Order(%d) = %x", epoch, text)
		}
		if got, ok := ReadOrder(text); got != epoch || !ok {
			t.Errorf("P7: ReadOrder(%x) = %d, %v", text, got, ok)
		}
	}
}

func TestForms(t *testing.T) {
	for n := range 150 {
		for _, mark := range []string{"T", "C", "t", "c", "\x00", "\xff"} {
			text := (mark + strings.Repeat("T", n))[:n]
			if got, ok := ReadTicket(text); ok != (n == 72 && mark == "T") || !ok && got != (api.Ticket{}) {
				t.Errorf("P6: ReadTicket(%q) = %+v, %v", text, got, ok)
			}
			if got, ok := ReadOrder(text); ok != (n == 67 && mark == "C") || !ok && got != 0 {
				t.Errorf("P7: ReadOrder(%q) = %d, %v", text, got, ok)
			}
		}
	}
}

func TestRight(t *testing.T) {
	key := signing.Key(seed)
	for _, text := range []string{byLibrary(""), byLibrary("x"), Ticket(seed, api.Ticket{Epoch: 3}), Order(seed, 3)} {
		if !Right(key, text) {
			t.Errorf("P6: %x is not right", text)
		}
		for _, other := range []string{text[1:], "x" + text, text + "x", text[:len(text)-1], "y" + text[1:]} {
			if Right(key, other) {
				t.Errorf("P6: %x is right", other)
			}
		}
		if Right("", text) || Right(key[:31], text) || Right(signing.Key(strings.Repeat("q", 32)), text) {
			t.Errorf("P6: %x is right for another key", text)
		}
	}
	for _, text := range []string{"", "x", strings.Repeat("x", 63), strings.Repeat("x", 64)} {
		if Right(key, text) || Right("", text) {
			t.Errorf("P6: %q is right", text)
		}
	}
}
