/-
  Entries put, one behind the other.
-/
import Derived.Test.YtfnnbfgfmbiababPutO
namespace Go.Proofs.Ytfnnbfgfmbiabab
open Go.RowKit Go.Shelf

/-- An entry's text. -/
def Ent.tx (e : Ent) : List UInt8 := txEntry e.t e.i e.k e.d
/-- Entries' texts, each with its length ahead. -/
def packs : List Ent → List UInt8
  | [] => []
  | e :: r => (numB e.tx.length ++ e.tx) ++ packs r

theorem firstErr_ok' {e : Ent} {r : List Ent} (h : e.ck = 0) : firstErr (e :: r) = firstErr r := by simp [firstErr, h]
theorem firstErr_no' {e : Ent} {r : List Ent} (h : e.ck ≠ 0) : firstErr (e :: r) = e.ck := by simp [firstErr, h]
theorem packs_append (a b : List Ent) : packs (a ++ b) = packs a ++ packs b := by
  induction a with
  | nil => rfl
  | cons e r ih => simp [packs, ih]

theorem ent_len {e : Ent} (h : e.ck = 0) : e.tx.length ≤ 4136 := by
  obtain ⟨_, _, _, h4⟩ := ckEntry_ok h
  have := txEntry_len e.t e.i e.k e.d
  unfold Ent.tx
  omega
theorem firstErr_all {es : List Ent} (h : firstErr es = 0) : ∀ e ∈ es, e.ck = 0 := by
  induction es with
  | nil => simp
  | cons e r ih =>
    by_cases hk : e.ck = 0
    · rw [firstErr_ok' hk] at h
      intro x hx
      rcases List.mem_cons.1 hx with rfl | hx
      · exact hk
      · exact ih h x hx
    · rw [firstErr_no' hk] at h
      exact absurd h hk
theorem packs_len {es : List Ent} (h : ∀ e ∈ es, e.ck = 0) : (packs es).length ≤ 5000 * es.length := by
  induction es with
  | nil => simp [packs]
  | cons e r ih =>
    have h1 := ent_len (h e (by simp))
    have h2 := ih (fun x hx => h x (by simp [hx]))
    have h3 := numB_len e.tx.length
    simp [packs]
    omega
theorem take_succ' {es : List Ent} {k : Nat} (h : k < es.length) : es.take (k + 1) = es.take k ++ [es.getD k nilEnt] := by
  rw [List.take_succ_eq_append_getElem h, List.getD_eq_getElem?_getD, List.getElem?_eq_getElem h]; rfl
theorem packs_take {es : List Ent} {k : Nat} (h : k < es.length) : packs (es.take (k + 1)) = packs (es.take k) ++ (numB (es.getD k nilEnt).tx.length ++ (es.getD k nilEnt).tx) := by
  rw [take_succ' h, packs_append]; simp [packs]
theorem getD_mem {es : List Ent} {k : Nat} (h : k < es.length) : es.getD k nilEnt ∈ es := by
  rw [List.getD_eq_getElem?_getD, List.getElem?_eq_getElem h]; exact List.getElem_mem h

set_option maxRecDepth 100000 in
set_option maxHeartbeats 8000000 in
theorem putAll_any (ea : Option Addr) (ec : Nat) (es : List Ent) (size : Int) {w0 w : World} {l : List UInt8} (N : Nat) (h : Wr w0 w l) (hl : l.length ≤ 1000000) (hE : EntsAt N w0 ea es) (hN : N ≤ w0.heap.size) (hk : firstErr es = 0) (hs : 8192 ≤ size) (hn : es.length ≤ 1000) :
    Calls Try.prog 33 #[.pointer (some ⟨w0.heap.size, 0, none⟩), .iface 31 (.agg #[]), .slice ea es.length ec, .int .i64 size] w fun r w' => r = .returned (.int .i64 0) ∧ Wr w0 w' (l ++ numB es.length ++ packs es) := by
  have HA : Hid (∀ e ∈ es, e.ck = 0) := firstErr_all hk
  have HEE : Hid (EntsAt N w0 ea es) := hE
  have hb := numB_len es.length
  have hnn : isNumB (es.length : Int) = true := by simp [isNumB]; omega
  clear hE hk
  go_enter Try.func33, Try.ntmps33
  go_wp2_with fail
  refine (wrInt_any (es.length : Int) h (by omega) hnn).mono ?_
  rintro r w1 ⟨rfl, h1⟩
  rw [Int.toNat_natCast] at h1
  go_wp2_with fail
  go_loopw [18] (fun iv wr => ∃ (k : Nat), iv = .int .i64 (k : Int) ∧ k ≤ es.length ∧ Wr w0 wr (l ++ numB es.length ++ packs (es.take k))) (fun iv _ => es.length - (intOf iv).toNat)
  case atStart => exact ⟨0, rfl, Nat.zero_le _, by simpa [packs] using h1⟩
  case round =>
    obtain ⟨k, rfl, hk, hW⟩ := hrel
    by_cases hlt : k < es.length
    · obtain ⟨b, off, hea, hb', he⟩ := HEE.out.at hlt
      subst hea
      have he' := he.below hb' (hW.bel.mono hN)
      have hck := HA.out _ (getD_mem hlt)
      have HP : Hid (packs (es.take (k + 1)) = packs (es.take k) ++ (numB (es.getD k nilEnt).tx.length ++ (es.getD k nilEnt).tx)) := packs_take hlt
      have hpl := packs_len (es := es.take k) (fun e he => HA.out e (List.mem_of_mem_take he))
      have htl : (es.take k).length = k := by simp; omega
      rw [htl] at hpl
      generalize es.getD k nilEnt = e at *
      have hel := ent_len hck
      obtain ⟨et, ei, ek, eaa, ecc, ed⟩ := e
      obtain ⟨c0, c1, c2, c3, c4⟩ := he'
      unfold Ent.x at c3 c4
      unfold Ent.tx at HP hel
      unfold Ent.ck at hck
      simp only at c0 c1 c2 c3 c4 HP hel hck
      have hbw : b < wr.heap.size := by have := hW.bel.size; omega
      have hB0 : Below wr.heap.size wr (wr.alloc (.cells #[.int .i64 et, .int .i64 ei, .int .i64 ek, .slice eaa ed.length ecc] 26)) := (Below.refl _ wr).alloc (Nat.le_refl _) _
      have hW0 := hW.mono hB0
      have hc4 := c4.below (hB0.mono (by have := hW.bel.size; omega))
      have hNN : N ≤ (wr.alloc (.cells #[.int .i64 et, .int .i64 ei, .int .i64 ek, .slice eaa ed.length ecc] 26)).heap.size := by have := hW.bel.size; simp; omega
      have hp := putOneEntry_any et ei ek size ed eaa ecc N hW0 (by simp; omega) hc4 hNN hck (by omega) (by omega)
      have HF : Hid (∀ w', Wr w0 w' (l ++ numB es.length ++ packs (es.take k) ++ (numB (txEntry et ei ek ed).length ++ txEntry et ei ek ed)) → Wr w0 w' (l ++ numB es.length ++ packs (es.take (k + 1)))) := fun w' hw => by
        rw [HP.out, ← List.append_assoc]; exact hw
      clear he hc4 hW0 hB0 hck hel c4 hpl
      generalize (l ++ numB es.length ++ packs (es.take k) ++ (numB (txEntry et ei ek ed).length ++ txEntry et ei ek ed)) = L at *
      go_wp2_with (go_at_call 76; refine hp.mono ?_; rintro r w5 ⟨rfl, hW5⟩)
      exact ⟨⟨k + 1, by go_num, by omega, HF.out _ hW5⟩, by simp [intOf]; omega⟩
    · have HF : Hid (Wr w0 wr (l ++ numB es.length ++ packs es)) := by
        have e0 : es.take k = es := List.take_of_length_le (by omega)
        rw [e0] at hW; exact hW
      clear hW
      go_wp2
      go_returns
      exact ⟨rfl, HF.out⟩
end Go.Proofs.Ytfnnbfgfmbiabab
