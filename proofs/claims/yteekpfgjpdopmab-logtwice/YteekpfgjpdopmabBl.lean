/-
  built: a log of terms.
-/
import Derived.Test.YteekpfgjpdopmabRi
namespace Go.Proofs.Yteekpfgjpdopmab
open Go.RowKit
set_option linter.unusedVariables false

/-- A byte of a number. -/
def byt (t : Int) : UInt8 := UInt8.ofNat (t % 256).toNat
theorem byt_enc (t : Int) : encB (byt t) = .int .u8 (t % 256) := by
  unfold encB byt
  congr 1
  simp [UInt8.toNat_ofNat']
  omega
/-- A new log. -/
def P0 : PL := ⟨0, 0, [], 0, 0, 0, 0, 0⟩
theorem P0_new : ckNew 0 0 [] = 0 ∧ newP 0 0 0 [] = P0 := ⟨by decide, by kernel_rfl⟩
/-- What an Append leaves. -/
def apL (P : PL) (t k : Int) (d : List UInt8) : PL := if apE P t k d.length = 0 then apP P t k d else P
/-- The log of terms. -/
def blt : PL → List Int → PL
  | P, [] => P
  | P, t :: r => blt (apL P t 1 [byt t]) r

theorem Append_any {N : Nat} {S : Nat → Prop} {w : World} {b : Nat} {P : PL} (h : Lg N S w b P) (hN : N ≤ w.heap.size) (t k : Int) (a : Option Addr) (d : List UInt8) (cap M : Nat) (hs : Sl M w (.slice a d.length cap) d) (hM : M ≤ w.heap.size) :
    Calls Try.prog 23 #[.pointer (some ⟨b, 0, none⟩), .int .i64 t, .int .i64 k, .slice a d.length cap] w fun e w' => e = .returned (.tuple #[.int .i64 (if apE P t k d.length = 0 then P.li + 1 else 0), .int .i64 (apE P t k d.length : Int)]) ∧ LTh N S w w' b (apL P t k d) := by
  unfold apL
  by_cases he : apE P t k d.length = 0
  · rw [if_pos he, if_pos he, he]
    exact Append_ok h hN t k a d cap M hs hM he
  · rw [if_neg he, if_neg he]
    exact (Append_no h t k a d.length cap he).mono (fun e w' h1 => ⟨h1.1, h.th hN h1.2⟩)

theorem new_any (w : World) : Calls Try.prog 18 #[.int .i64 0, .int .i64 0, .int .i64 0, .slice none 0 0] w fun e w' => ∃ b S, e = .returned (.tuple #[.pointer (some ⟨b, 0, none⟩), .int .i64 0]) ∧ Lg w.heap.size S w' b P0 ∧ Below w.heap.size w w' := by
  have := New_any 0 0 0 none 0 [] 0 w (.inl rfl) (Nat.zero_le _) P0_new.1
  rw [List.map_nil, P0_new.2] at this
  exact this

/-- A log that was made. -/
def Made (N : Nat) (w : World) (P : PL) (e : Ending) (w' : World) : Prop := ∃ b S, e = .returned (.pointer (some ⟨b, 0, none⟩)) ∧ Lg N S w' b P ∧ Below w.heap.size w w'

set_option maxRecDepth 100000 in
set_option maxHeartbeats 4000000 in
theorem built_any (M : Nat) (v : Value) (l : List Int) (w : World) (hv : ISl M w v l) (hM : M ≤ w.heap.size) (hl : l.length ≤ 1000) :
    Calls Try.prog 9 #[v] w fun e w' => Made w.heap.size w (blt P0 l) e w' := by
  obtain ⟨a, cap, rfl, -⟩ := id hv
  have HV : Hid (ISl M w (.slice a l.length cap) l) := hv
  clear hv
  go_enter Try.func9, Try.ntmps9
  go_wp2_with fail
  refine (new_any w).mono ?_
  rintro e w1 ⟨b, S, rfl, hL, hB1⟩
  have HL1 : Hid (Lg w.heap.size S w1 b P0) := hL
  have HB1 : Hid (Below w.heap.size w w1) := hB1
  clear hL hB1
  go_wp2_with fail
  go_loopw [5] (fun iv wr => ∃ (k : Nat) (P : PL) (S' : Nat → Prop), iv = .int .i64 (k : Int) ∧ k ≤ l.length ∧ blt P (l.drop k) = blt P0 l ∧ Lg w.heap.size S' wr b P ∧ Below w.heap.size w wr) (fun iv _ => l.length - (intOf iv).toNat)
  case atStart => exact ⟨0, P0, S, rfl, Nat.zero_le _, rfl, HL1.out, HB1.out⟩
  case round =>
    obtain ⟨k, P, S', rfl, hk, hbl, hL, hB⟩ := hrel
    have HBL : Hid (blt P (l.drop k) = blt P0 l) := hbl
    have HL : Hid (Lg w.heap.size S' wr b P) := hL
    have HB : Hid (Below w.heap.size w wr) := hB
    clear hbl hL hB HL1 HB1
    by_cases hlt : k < l.length
    · obtain ⟨_, _, heq, -, -, hc⟩ := HV.out.below (HB.out.mono hM)
      cases heq
      obtain ⟨g, off, rfl, hg, hc⟩ := hc.resolve_left (by intro h; rw [h] at hlt; simp at hlt)
      have c0 := hc k hlt
      have HD : Hid (l.drop k = l[k]?.getD 0 :: l.drop (k + 1)) := dropI hlt
      generalize l[k]?.getD 0 = x at *
      have HN : Hid (blt (apL P x 1 [byt x]) (l.drop (k + 1)) = blt P0 l) := by show _ = _; rw [← HBL.out, HD.out]; rfl
      have hgw : g < wr.heap.size := by have := HB.out.size; omega
      have i0 : (0 : Int) ≤ (k : Int) := by omega
      have i1 : (k : Int) < (l.length : Int) := by omega
      have HAP : Hid (Calls Try.prog 23 #[.pointer (some ⟨b, 0, none⟩), .int .i64 x, .int .i64 1, .slice (some ⟨wr.heap.size, 0, none⟩) 1 1] (wr.alloc (.cells #[.int .u8 (x % 256)] 5)).drew fun e w' => ∃ n E, e = .returned (.tuple #[.int .i64 n, .int .i64 (E : Int)]) ∧ (∃ S'', Lg w.heap.size S'' w' b (apL P x 1 [byt x])) ∧ Below w.heap.size w w' ∧ w'.cell? ⟨g, off + k, none⟩ = some (.int .i64 x)) := by
        show Calls _ _ _ _ _
        have hXA : Below wr.heap.size wr (wr.alloc (.cells #[.int .u8 (x % 256)] 5)).drew := ((Below.refl _ wr).alloc (Nat.le_refl _) _).drew
        have hsl : Sl (wr.heap.size + 1) (wr.alloc (.cells #[.int .u8 (x % 256)] 5)).drew (.slice (some ⟨wr.heap.size, 0, none⟩) ([byt x].length) 1) [byt x] := sl_marked wr [byt x] #[.int .u8 (x % 256)] (0, 0) (by simp) (by simp [byt_enc])
        have hN2 : w.heap.size ≤ (wr.alloc (.cells #[.int .u8 (x % 256)] 5)).drew.heap.size := Nat.le_trans HB.out.size hXA.size
        refine (Append_any (HL.out.below hXA) hN2 x 1 _ [byt x] 1 _ hsl (by show _ ≤ (wr.alloc (.cells #[.int .u8 (x % 256)] 5)).heap.size; simp)).mono ?_
        rintro e w' ⟨rfl, hT⟩
        have hBE : Below w.heap.size wr w' := (hXA.mono HB.out.size).trans (hT.bel hN2)
        exact ⟨_, _, rfl, ⟨_, hT.q⟩, HB.out.trans hBE, (hBE.cell (p := ⟨g, off + k, none⟩) (by show g < w.heap.size; omega)).trans c0⟩
      clear hc HV
      go_wp2_with fail
      go_region_held3 (fun w' => w'.cell? ⟨g, off + k, none⟩ = some (.int .i64 x)) (go_keep)
        (first
          | (go_at_call 23; refine HAP.out.mono ?_; rintro r w5 ⟨n5, E5, rfl, ⟨S5, hL5⟩, hB5, hc5⟩; have HL5 : Hid (Lg _ _ _ _ _) := hL5; have HB5 : Hid (Below _ _ _) := hB5; clear hL5 hB5)
          | fail)
      go_wp2
      exact ⟨⟨k + 1, _, S5, by go_num, by omega, HN.out, HL5.out, HB5.out⟩, by simp [intOf]; omega⟩
    · have HE : Hid (P = P) := rfl
      have HBL2 : Hid (blt P0 l = P) := by show _ = _; rw [← HBL.out, List.drop_of_length_le (by omega)]; rfl
      go_wp2
      go_ret
      exact ⟨b, S', rfl, by rw [HBL2.out]; exact HL.out, HB.out⟩
end Go.Proofs.Yteekpfgjpdopmab
