/-
  Stage 2: the laws' valid.
-/
import Derived.Test.YtfodjaeknhomkaaRatZ
import Derived.Test.YtfodjaeknhomkaaRatG
namespace Go.Proofs.Ytfodjaeknhomkaa
open Go.RowKit
def vsh (q : RVal) (L : Nat) : Bool := decide (q.n ≤ L) && decide (q.nd ≤ L)
def vva (q : RVal) : Bool := (rv q.o q.od).isSome
theorem three_rats (a b c : RVal) (w W : World) (h1 : a.In w) (h2 : b.In w) (h3 : c.In w) (hW : ((w.alloc (.cells #[.bool a.g, .slice a.A a.n a.c, .bool a.gd, .slice a.Ad a.nd a.cd] 28)).alloc (.cells #[.bool b.g, .slice b.A b.n b.c, .bool b.gd, .slice b.Ad b.nd b.cd] 28)).alloc (.cells #[.bool c.g, .slice c.A c.n c.c, .bool c.gd, .slice c.Ad c.nd c.cd] 28) = W) :
    Below w.heap.size w W ∧ Rb W w.heap.size a ∧ Rb W (w.heap.size + 1) b ∧ Rb W (w.heap.size + 1 + 1) c := by
  obtain ⟨hb, x1, x2⟩ := two_rats a b w _ h1 h2 rfl
  have x3 := Rb.new (h3.on hb)
  have hn := below_new ((w.alloc (.cells #[.bool a.g, .slice a.A a.n a.c, .bool a.gd, .slice a.Ad a.nd a.cd] 28)).alloc (.cells #[.bool b.g, .slice b.A b.n b.c, .bool b.gd, .slice b.Ad b.nd b.cd] 28)) (.cells #[.bool c.g, .slice c.A c.n c.c, .bool c.gd, .slice c.Ad c.nd c.cd] 28)
  rw [hW] at hn x3
  exact ⟨below_chain hb hb.size hn, x1.on hn, x2.on hn, by simpa using x3⟩
def vok (a b c : RVal) (L : Nat) : Bool := (vsh a L && vsh b L && vsh c L) && (vva a && vva b && vva c)
end Go.Proofs.Ytfodjaeknhomkaa
