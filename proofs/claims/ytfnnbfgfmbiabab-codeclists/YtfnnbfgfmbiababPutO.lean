/-
  One thing's text put as bytes.
-/
import Derived.Test.YtfnnbfgfmbiababEnt
import Derived.Test.YtfnnbfgfmbiababMsgB
import Derived.Test.YtfnnbfgfmbiababPutB
namespace Go.Proofs.Ytfnnbfgfmbiabab
open Go.RowKit Go.Shelf

set_option maxRecDepth 100000 in
set_option maxHeartbeats 8000000 in
theorem putOneSnap_any (i t size : Int) (m : List UInt8) (a : Option Addr) (cap M : Nat) {w0 w : World} {l : List UInt8} (h : Wr w0 w l) (hl : l.length ≤ 100000000) (hx : Sl M w (.slice a m.length cap) m) (hM : M ≤ w.heap.size) (hk : ckSnap i t m.length = 0) (hs : ((txSnap i t m).length : Int) ≤ size) (hs2 : (txSnap i t m).length ≤ 100000000) :
    Calls Try.prog 90 #[.pointer (some ⟨w0.heap.size, 0, none⟩), .iface 145 (.agg #[]), .agg #[.int .i64 i, .int .i64 t, .slice a m.length cap], .int .i64 size] w fun r w' => r = .returned (.int .i64 0) ∧ Wr w0 w' (l ++ (numB (txSnap i t m).length ++ txSnap i t m)) := by
  have hB0 : Below w.heap.size w (w.alloc (.cells #[.int .i64 i, .int .i64 t, .slice a m.length cap] 47)) := (Below.refl _ w).alloc (Nat.le_refl _) _
  have hp := putSnap_any i t m a cap (w.alloc (.cells #[.int .i64 i, .int .i64 t, .slice a m.length cap] 47)) M (hx.below (hB0.mono hM)) (by simp; omega)
  rw [hk] at hp
  simp only [if_true] at hp
  generalize txSnap i t m = T at *
  go_enter Try.func90, Try.ntmps90
  go_wp2_with fail
  refine hp.mono ?_
  rintro e w2 ⟨u, rfl, hO, hB⟩
  obtain ⟨ua, uc, rfl, -, -⟩ := hO.shape
  have hB2 : Below w.heap.size w w2 := hB0.trans (hB.mono (by simp))
  have hS : Ws w0 w2 (fun k => w.heap.size ≤ k ∧ k < w2.heap.size) l := h.ws hB2 (fun k hk => hk)
  have hN : ∀ k, (Value.slice ua T.length uc).ownBlock = some k → w.heap.size ≤ k ∧ k < w2.heap.size := fun k e => by
    have := World.ownsRow.lt hO k e
    simp only [World.size_alloc] at this
    omega
  clear hB hB0 hp
  go_wp2_with fail
  refine (wsBytes_any size hS (by omega) (by omega) hO hN hs).mono ?_
  rintro e w3 ⟨rfl, hS3, -⟩
  go_wp2
  go_returns
  exact ⟨rfl, hS3.wr⟩

set_option maxRecDepth 100000 in
set_option maxHeartbeats 8000000 in
theorem putOneEntry_any (t i k size : Int) (m : List UInt8) (a : Option Addr) (cap M : Nat) {w0 w : World} {l : List UInt8} (h : Wr w0 w l) (hl : l.length ≤ 100000000) (hx : Sl M w (.slice a m.length cap) m) (hM : M ≤ w.heap.size) (hk : ckEntry t i k m.length = 0) (hs : ((txEntry t i k m).length : Int) ≤ size) (hs2 : (txEntry t i k m).length ≤ 100000000) :
    Calls Try.prog 76 #[.pointer (some ⟨w0.heap.size, 0, none⟩), .iface 31 (.agg #[]), .agg #[.int .i64 t, .int .i64 i, .int .i64 k, .slice a m.length cap], .int .i64 size] w fun r w' => r = .returned (.int .i64 0) ∧ Wr w0 w' (l ++ (numB (txEntry t i k m).length ++ txEntry t i k m)) := by
  have hB0 : Below w.heap.size w (w.alloc (.cells #[.int .i64 t, .int .i64 i, .int .i64 k, .slice a m.length cap] 26)) := (Below.refl _ w).alloc (Nat.le_refl _) _
  have hp := putEntry_any t i k m a cap (w.alloc (.cells #[.int .i64 t, .int .i64 i, .int .i64 k, .slice a m.length cap] 26)) M (hx.below (hB0.mono hM)) (by simp; omega)
  rw [hk] at hp
  simp only [if_true] at hp
  generalize txEntry t i k m = T at *
  go_enter Try.func76, Try.ntmps76
  go_wp2_with fail
  refine hp.mono ?_
  rintro e w2 ⟨u, rfl, hO, hB⟩
  obtain ⟨ua, uc, rfl, -, -⟩ := hO.shape
  have hB2 : Below w.heap.size w w2 := hB0.trans (hB.mono (by simp))
  have hS : Ws w0 w2 (fun k => w.heap.size ≤ k ∧ k < w2.heap.size) l := h.ws hB2 (fun k hk => hk)
  have hN : ∀ k, (Value.slice ua T.length uc).ownBlock = some k → w.heap.size ≤ k ∧ k < w2.heap.size := fun k e => by
    have := World.ownsRow.lt hO k e
    simp only [World.size_alloc] at this
    omega
  clear hB hB0 hp
  go_wp2_with fail
  refine (wsBytes_any size hS (by omega) (by omega) hO hN hs).mono ?_
  rintro e w3 ⟨rfl, hS3, -⟩
  go_wp2
  go_returns
  exact ⟨rfl, hS3.wr⟩

end Go.Proofs.Ytfnnbfgfmbiabab
