/-
  Lists of entries put, with what is refused.
-/
import Derived.Test.YtfnnbfgfmbiababPutE
import Derived.Test.YtfnnbfgfmbiababGetE
namespace Go.Proofs.Ytfnnbfgfmbiabab
open Go.RowKit Go.Shelf
set_option linter.unusedVariables false

set_option maxRecDepth 100000 in
set_option maxHeartbeats 8000000 in
theorem putOneE_any (t i k size : Int) (m : List UInt8) (a : Option Addr) (cap M : Nat) {w0 w : World} {l : List UInt8} (h : Wr w0 w l) (hl : l.length ≤ 100000000) (hx : Sl M w (.slice a m.length cap) m) (hM : M ≤ w.heap.size) (hs : 5000 ≤ size) :
    Calls Try.prog 76 #[.pointer (some ⟨w0.heap.size, 0, none⟩), .iface 31 (.agg #[]), .agg #[.int .i64 t, .int .i64 i, .int .i64 k, .slice a m.length cap], .int .i64 size] w fun r w' => r = .returned (.int .i64 (ckEntry t i k m.length : Int)) ∧ Wr w0 w' (if ckEntry t i k m.length = 0 then l ++ (numB (txEntry t i k m).length ++ txEntry t i k m) else l) := by
  by_cases hk : ckEntry t i k m.length = 0
  · have hlen := ent_len (e := ⟨t, i, k, a, cap, m⟩) hk
    unfold Ent.tx at hlen
    simp only at hlen
    have := putOneEntry_any t i k size m a cap M h hl hx hM hk (by omega) (by omega)
    rw [hk]
    simpa using this
  have hB0 : Below w.heap.size w (w.alloc (.cells #[.int .i64 t, .int .i64 i, .int .i64 k, .slice a m.length cap] 26)) := (Below.refl _ w).alloc (Nat.le_refl _) _
  have hp := putEntry_any t i k m a cap (w.alloc (.cells #[.int .i64 t, .int .i64 i, .int .i64 k, .slice a m.length cap] 26)) M (hx.below (hB0.mono hM)) (by simp; omega)
  rw [if_neg hk]
  rw [if_neg hk] at hp
  generalize ckEntry t i k m.length = ke at *
  have hke : ((ke : Int) == 0) = false := by simp; omega
  go_enter Try.func76, Try.ntmps76
  go_wp2_with fail
  refine hp.mono ?_
  rintro e w2 ⟨u, rfl, hO, hB⟩
  obtain ⟨ua, uc, rfl, -, -⟩ := hO.shape
  have hB2 : Below w.heap.size w w2 := hB0.trans (hB.mono (by simp))
  clear hB hB0 hp
  go_wp2
  go_returns
  exact ⟨rfl, h.mono hB2⟩

set_option maxRecDepth 100000 in
set_option maxHeartbeats 8000000 in
theorem putAllE_any (ea : Option Addr) (ec : Nat) (es : List Ent) (size : Int) {w0 w : World} {l : List UInt8} (N : Nat) (h : Wr w0 w l) (hl : l.length ≤ 1000000) (hE : EntsAt N w0 ea es) (hN : N ≤ w0.heap.size) (hs : 8192 ≤ size) (hn : es.length ≤ 1000) :
    Calls Try.prog 33 #[.pointer (some ⟨w0.heap.size, 0, none⟩), .iface 31 (.agg #[]), .slice ea es.length ec, .int .i64 size] w fun r w' => r = .returned (.int .i64 (firstErr es : Int)) ∧ (firstErr es = 0 → Wr w0 w' (l ++ numB es.length ++ packs es)) ∧ Below w0.heap.size w0 w' := by
  have HEE : Hid (EntsAt N w0 ea es) := hE
  have hb := numB_len es.length
  have hnn : isNumB (es.length : Int) = true := by simp [isNumB]; omega
  clear hE
  go_enter Try.func33, Try.ntmps33
  go_wp2_with fail
  refine (wrInt_any (es.length : Int) h (by omega) hnn).mono ?_
  rintro r w1 ⟨rfl, h1⟩
  rw [Int.toNat_natCast] at h1
  go_wp2_with fail
  go_loopw [18] (fun iv wr => ∃ (k : Nat), iv = .int .i64 (k : Int) ∧ k ≤ es.length ∧ Wr w0 wr (l ++ numB es.length ++ packs (es.take k)) ∧ (∀ e ∈ es.take k, e.ck = 0) ∧ firstErr es = firstErr (es.drop k)) (fun iv _ => es.length - (intOf iv).toNat)
  case atStart => exact ⟨0, rfl, Nat.zero_le _, by simpa [packs] using h1, by simp, rfl⟩
  case round =>
    obtain ⟨k, rfl, hk, hW, hA, hF⟩ := hrel
    have HA : Hid (∀ e ∈ es.take k, e.ck = 0) := hA
    have HF : Hid (firstErr es = firstErr (es.drop k)) := hF
    clear hA hF
    by_cases hlt : k < es.length
    · obtain ⟨b, off, hea, hb', he⟩ := HEE.out.at hlt
      subst hea
      have he' := he.below hb' (hW.bel.mono hN)
      have HP : Hid (packs (es.take (k + 1)) = packs (es.take k) ++ (numB (es.getD k nilEnt).tx.length ++ (es.getD k nilEnt).tx)) := packs_take hlt
      have HTK : Hid (es.take (k + 1) = es.take k ++ [es.getD k nilEnt]) := take_succ' hlt
      have HDK : Hid (es.drop k = es.getD k nilEnt :: es.drop (k + 1)) := drop_at hlt
      have hpl := packs_len (es := es.take k) HA.out
      have htl : (es.take k).length = k := by simp; omega
      rw [htl] at hpl
      generalize es.getD k nilEnt = e at *
      obtain ⟨et, ei, ek, eaa, ecc, ed⟩ := e
      obtain ⟨c0, c1, c2, c3, c4⟩ := he'
      unfold Ent.x at c3 c4
      unfold Ent.tx at HP
      simp only at c0 c1 c2 c3 c4 HP
      have hbw : b < wr.heap.size := by have := hW.bel.size; omega
      have hB0 : Below wr.heap.size wr (wr.alloc (.cells #[.int .i64 et, .int .i64 ei, .int .i64 ek, .slice eaa ed.length ecc] 26)) := (Below.refl _ wr).alloc (Nat.le_refl _) _
      have hW0 := hW.mono hB0
      have hc4 := c4.below (hB0.mono (by have := hW.bel.size; omega))
      have hNN : N ≤ (wr.alloc (.cells #[.int .i64 et, .int .i64 ei, .int .i64 ek, .slice eaa ed.length ecc] 26)).heap.size := by have := hW.bel.size; simp; omega
      have hp := putOneE_any et ei ek size ed eaa ecc N hW0 (by simp; omega) hc4 hNN (by omega)
      have HCK : Hid ((⟨et, ei, ek, eaa, ecc, ed⟩ : Ent).ck = ckEntry et ei ek ed.length) := rfl
      by_cases hz : ckEntry et ei ek ed.length = 0
      · rw [hz] at hp
        simp only [if_true] at hp
        have HG : Hid (∀ w', Wr w0 w' (l ++ numB es.length ++ packs (es.take k) ++ (numB (txEntry et ei ek ed).length ++ txEntry et ei ek ed)) → Wr w0 w' (l ++ numB es.length ++ packs (es.take (k + 1)))) := fun w' hw => by
          rw [HP.out, ← List.append_assoc]; exact hw
        have HA2 : Hid (∀ e ∈ es.take (k + 1), e.ck = 0) := fun e he => by
          rw [HTK.out] at he
          rcases List.mem_append.1 he with he | he
          · exact HA.out e he
          · obtain rfl := List.mem_singleton.1 he
            exact hz
        have HF2 : Hid (firstErr es = firstErr (es.drop (k + 1))) := by
          show firstErr es = _
          rw [HF.out, HDK.out, firstErr, HCK.out, hz]; rfl
        clear he hW0 hB0 hpl hz hc4 c4
        generalize (l ++ numB es.length ++ packs (es.take k) ++ (numB (txEntry et ei ek ed).length ++ txEntry et ei ek ed)) = L at *
        go_wp2_with (go_at_call 76; refine hp.mono ?_; rintro r w5 ⟨rfl, hW5⟩)
        exact ⟨⟨k + 1, by go_num, by omega, HG.out _ hW5, HA2.out, HF2.out⟩, by simp [intOf]; omega⟩
      · rw [if_neg hz] at hp
        have HF2 : Hid (firstErr es = ckEntry et ei ek ed.length) := by
          show firstErr es = _
          rw [HF.out, HDK.out, firstErr, HCK.out, if_pos hz]
        have HZ : Hid (ckEntry et ei ek ed.length ≠ 0) := hz
        generalize ckEntry et ei ek ed.length = ke at *
        have hke : ((ke : Int) != 0) = true := by simp; omega
        clear he hW0 hB0 hpl hz hc4 c4
        go_wp2_with (go_at_call 76; refine hp.mono ?_; rintro r w5 ⟨rfl, hW5⟩)
        go_returns
        exact ⟨by rw [HF2.out]; rfl, fun h0 => absurd (HF2.out.symm.trans h0) HZ.out, hW5.bel⟩
    · have HG : Hid (Wr w0 wr (l ++ numB es.length ++ packs es)) := by
        have e0 : es.take k = es := List.take_of_length_le (by omega)
        rw [e0] at hW; exact hW
      have HF2 : Hid (firstErr es = 0) := by show firstErr es = 0; rw [HF.out, List.drop_eq_nil_of_le (by omega)]; rfl
      clear hW
      go_wp2
      go_returns
      exact ⟨by rw [HF2.out]; rfl, fun _ => HG.out, HG.out.bel⟩

/-- What PutList answers of entries. -/
def peE (most : Int) (es : List Ent) : Nat := if most < (es.length : Int) then 3 else firstErr es
def peT (most : Int) (es : List Ent) : List UInt8 := if peE most es = 0 then numB es.length ++ packs es else []

set_option maxRecDepth 100000 in
set_option maxHeartbeats 8000000 in
theorem putListE_any (ea : Option Addr) (ec : Nat) (es : List Ent) (most : Int) (w : World) (N : Nat) (hE : EntsAt N w ea es) (hN : N ≤ w.heap.size) (hn : es.length ≤ 100) :
    Calls Try.prog 9 #[.iface 31 (.agg #[]), .slice ea es.length ec, .int .i64 most] w fun r w' => ∃ u, r = .returned (.tuple #[u, .int .i64 (peE most es : Int)]) ∧ Ow w.heap.size w' u (peT most es) ∧ Below w.heap.size w w' := by
  by_cases hm : most < (es.length : Int)
  · have e1 : peE most es = 3 := by unfold peE; rw [if_pos hm]
    have e2 : peT most es = [] := by unfold peT; rw [e1]; rfl
    rw [e1, e2]
    clear e1 e2
    go_enter Try.func9, Try.ntmps9
    go_wp2
    go_ret2
    exact ⟨_, rfl, Ow.nil _ _, Below.refl _ _⟩
  have e1 : peE most es = firstErr es := by unfold peE; rw [if_neg hm]
  have HT : Hid (peT most es = if firstErr es = 0 then numB es.length ++ packs es else []) := by show peT most es = _; unfold peT; rw [e1]
  rw [e1, HT.out]
  clear e1
  have hpa : ∀ w1, Wr w w1 [] → Calls Try.prog 33 #[.pointer (some ⟨w.heap.size, 0, none⟩), .iface 31 (.agg #[]), .slice ea es.length ec, .int .i64 1048576] w1 fun r w' => r = .returned (.int .i64 (firstErr es : Int)) ∧ (firstErr es = 0 → Wr w w' ([] ++ numB es.length ++ packs es)) ∧ Below w.heap.size w w' := fun w1 h1 => putAllE_any ea ec es 1048576 N h1 (by simp) hE hN (by omega) (by omega)
  by_cases hz : firstErr es = 0
  · have hpl := packs_len (firstErr_all hz)
    have hb := numB_len es.length
    rw [hz] at hpa ⊢
    simp only [if_true] at hpa ⊢
    clear hz HT hE
    go_enter Try.func9, Try.ntmps9
    go_wp2_with fail
    refine (newW_any w).mono ?_
    rintro r w1 ⟨rfl, h1⟩
    go_wp2_with fail
    refine (hpa _ h1).mono ?_
    rintro r w2 ⟨rfl, h2, hB2⟩
    have h3 := h2 trivial
    clear h2 hpa
    go_wp2_with fail
    refine (wrDone_any h3 (by simp; omega)).mono ?_
    rintro r w4 ⟨u, rfl, hO, hB⟩
    go_wp2
    go_ret2
    exact ⟨u, rfl, by simpa using hO, hB⟩
  · rw [if_neg hz]
    generalize firstErr es = ke at *
    have hke : ((ke : Int) != 0) = true := by simp; omega
    clear HT hE
    go_enter Try.func9, Try.ntmps9
    go_wp2_with fail
    refine (newW_any w).mono ?_
    rintro r w1 ⟨rfl, h1⟩
    go_wp2_with fail
    refine (hpa _ h1).mono ?_
    rintro r w2 ⟨rfl, h2, hB2⟩
    go_wp2
    go_ret2
    exact ⟨_, rfl, Ow.nil _ _, hB2⟩
end Go.Proofs.Ytfnnbfgfmbiabab
