package message

import (
	"strings"
	"testing"

	"errand/api"
)

func TestPiecesMakeUpTheMessage(t *testing.T) {
	for length := 1; length <= api.Piece*api.MaxPieces; length++ {
		whole := strings.Repeat("0123456789", 8)[:length]
		m := Message(whole)
		left := whole
		for number := range m.Pieces() {
			piece := m.Piece(number)
			isLast := number == m.Pieces()-1
			if piece == "" || len(piece) > api.Piece || !isLast && len(piece) < api.Piece {
				t.Errorf("piece %d of %d bytes is %q", number, length, piece)
			}
			if !strings.HasPrefix(left, piece) {
				t.Fatalf("piece %d of %d bytes is %q, what is left is %q", number, length, piece, left)
			}
			left = left[len(piece):]
		}
		if left != "" {
			t.Errorf("of %d bytes %q is in no piece", length, left)
		}
	}
}
