// Package paper: tickets and orders as texts, which end with the signature of what stands ahead of it.
package paper

import (
	"postern/api"
	"postern/signing"
)

const (
	ticketMark = "T"
	orderMark  = "C"

	epochSize  = 2
	serialSize = 4
	classSize  = 1

	// TicketSize is how many bytes a ticket's text has.
	TicketSize = len(ticketMark) + epochSize + serialSize + classSize + signing.Size
	// OrderSize is how many bytes an order's text has.
	OrderSize = len(orderMark) + epochSize + signing.Size
)

// Ticket is the text of a ticket whose numbers are within their bounds. The seed has signing.SeedSize bytes.
func Ticket(seed string, t api.Ticket) string {
	return signed(seed, ticketMark+digits(t.Epoch, epochSize)+digits(t.Serial, serialSize)+digits(t.Class, classSize))
}

// Order is the text of an order whose epoch is within its bounds. The seed has signing.SeedSize bytes.
func Order(seed string, epoch int) string {
	return signed(seed, orderMark+digits(epoch, epochSize))
}

// ReadTicket is what the text says; false, if it is no ticket's by its form. Whether it is rightly signed is not asked.
func ReadTicket(text string) (api.Ticket, bool) {
	if len(text) != TicketSize || text[:len(ticketMark)] != ticketMark {
		return api.Ticket{}, false
	}
	epoch, rest := number(text[len(ticketMark):], epochSize)
	serial, rest := number(rest, serialSize)
	class, _ := number(rest, classSize)
	return api.Ticket{Epoch: epoch, Serial: serial, Class: class}, true
}

// ReadOrder is the epoch of which the text tells; false, if it is no order's by its form. Whether it is rightly signed is not asked.
func ReadOrder(text string) (int, bool) {
	if len(text) != OrderSize || text[:len(orderMark)] != orderMark {
		return 0, false
	}
	epoch, _ := number(text[len(orderMark):], epochSize)
	return epoch, true
}

// Right tells whether the text ends with a signature that is right, for the key, of what stands ahead of it.
func Right(key string, text string) bool {
	if len(text) < signing.Size {
		return false
	}
	cut := len(text) - signing.Size
	return signing.Right(key, text[:cut], text[cut:])
}

func signed(seed string, text string) string {
	return text + signing.Sign(seed, text)
}

// digits is the number's bytes, the highest first.
func digits(n int, size int) string {
	b := make([]byte, size)
	for i := range b {
		b[size-1-i] = byte(n >> (8 * i))
	}
	return string(b)
}

// number is that of the first bytes, the highest first, and what stands behind them.
func number(text string, size int) (int, string) {
	n := 0
	for i := range size {
		n = n<<8 | int(text[i])
	}
	return n, text[size:]
}
