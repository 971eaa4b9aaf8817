/-
  A writer of wire: Bool, Bytes, Text, Done.
-/
import Derived.Test.YtglhjgfaelfleabWtr
import Derived.Deep.RegionHeld3
import Derived.Laws.IdiomStrings
namespace Go.Proofs.Ytglhjgfaelfleab
open Go.RowKit Go.Shelf

theorem wInt_len (l : List UInt8) (e : Nat) (n : Int) : (wInt l e n).1.length ≤ l.length + 10 := by
  unfold wInt
  split
  · simp
  · split
    · have := num_len_le 9 n.toNat; simp [numB]; omega
    · simp

theorem frozen_at0 {w : World} {B : Nat} {x y : Value} {t : TypeId} (h : w.heap[B]? = some (.cells #[x, y] t (0, 0))) : w.frozen? ⟨B, 0, none⟩ = false := by simp [World.frozen?, h]
theorem cell_at0 {w : World} {B : Nat} {x y : Value} {t : TypeId} (h : w.heap[B]? = some (.cells #[x, y] t (0, 0))) : w.cell? ⟨B, 0, none⟩ = some x := by simp [World.cell?, h]

theorem Sl.tn {M : Nat} {w w' : World} {B : Nat} {v x : Value} {m : List UInt8} (h : Sl M w x m) (hM : M ≤ w.heap.size) (hT : Tn w w' B v) (hd : m ≠ [] → x.ownBlock ≠ some B ∧ ∀ k, x.ownBlock = some k → v.ownBlock ≠ some k) : Sl M w' x m := by
  obtain ⟨a, cap, rfl, h1, h2, h3⟩ := h
  refine ⟨a, cap, rfl, h1, h2, ?_⟩
  rcases h3 with h3 | ⟨b, off, rfl, hb, hc⟩
  · exact .inl h3
  · refine .inr ⟨b, off, rfl, hb, fun i hi => ?_⟩
    obtain ⟨hB, hv⟩ := hd (by intro e; subst e; simp at hi)
    exact (World.cell?_of_block (hT.block b (by omega) (fun e => hB (by rw [e]; rfl)) (hv b rfl))).trans (hc i hi)

/-- What a writer has, and its error, behind bytes. -/
def wBytes (l : List UInt8) (e : Nat) (m : List UInt8) (most : Int) : List UInt8 × Nat := if e ≠ 0 then (l, e) else if max most 0 < (m.length : Int) then ([], 3) else (l ++ numB m.length ++ m, 0)

set_option maxRecDepth 100000 in
set_option maxHeartbeats 2000000 in
theorem wwBytes_any (N B M : Nat) (v x : Value) (l m : List UInt8) (e : Nat) (most : Int) (w : World) (h : Wtr 81 N w B v l e) (hl : l.length ≤ 1073741824) (hm : m.length ≤ 1073741824)
    (hx : Sl M w x m) (hM : M ≤ w.heap.size) (hxd : m ≠ [] → x.ownBlock ≠ some B ∧ ∀ k, x.ownBlock = some k → v.ownBlock ≠ some k) :
    Calls Try.prog 38 #[.pointer (some ⟨B, 0, none⟩), x, .int .i64 most] w fun r w' => r = .returned (.tuple #[]) ∧ ∃ v', Wtr 81 N w' B v' (wBytes l e m most).1 (wBytes l e m most).2 ∧ Tn w w' B v ∧ Son w v v' := by
  obtain ⟨k0, k1, f0, f1⟩ := h.cells
  have hlt := h.lt
  have hle := h.le
  obtain ⟨b, c, hv, -, -⟩ := h.ow.shape
  obtain ⟨bx, cx, hxx, -⟩ := id hx
  subst hxx
  unfold wBytes
  by_cases he : e = 0
  · subst he
    rw [if_neg (by simp)]
    have hcase : (most < 0 ∧ max most 0 = 0) ∨ (¬ most < 0 ∧ max most 0 = most) := by omega
    have hmost : ∃ mm : Int, max most 0 = mm ∧ ((most < 0 ∧ mm = 0) ∨ (¬ most < 0 ∧ mm = most)) := ⟨_, rfl, hcase⟩
    obtain ⟨mm, hmm, hcase'⟩ := hmost
    rw [hmm]
    by_cases hbig : mm < (m.length : Int)
    · rw [if_pos hbig]
      subst hv
      clear hmm hcase
      rcases hcase' with ⟨hneg, rfl⟩ | ⟨hneg, rfl⟩
      all_goals
        go_enter Try.func38, Try.ntmps38
        go_wp2_with (go_at_call 34; refine (fail_any N B _ l 0 3 w h).mono ?_; rintro r w1 ⟨rfl, h1, hT1⟩)
        refine bodyPost_ret (results_none rfl _ _ _) rfl ?_
        exact ⟨rfl, _, h1, hT1, .inl rfl⟩
    · rw [if_neg hbig]
      subst hv
      clear hmm hcase
      have hnb := num_len_le 9 m.length
      have hlen : (l ++ numB m.length).length = l.length + (numB m.length).length := List.length_append
      rcases hcase' with ⟨hneg, rfl⟩ | ⟨hneg, rfl⟩
      all_goals
        go_enter Try.func38, Try.ntmps38
        go_wp2_with fail
        refine (appendInt_any N _ l m.length (by omega) w (by omega) hl h.ow).mono ?_
        rintro r w1 ⟨v1, rfl, hO1, hg1, hs1⟩
        have hT1 : Tn w w1 B (.slice b l.length c) := Tn.of_grown hg1 (fun k e => .inr e)
        have h1 : w1.heap[B]? = some (.cells #[.slice b l.length c, .int .i64 0] 81 (0, 0)) := (hg1.block B hlt (fun e => h.ow.not_at h.at0 (by decide) e.symm)).trans h.at0
        have hx1 := hx.tn hM hT1 hxd
        obtain ⟨b1, c1, hv1, -, -⟩ := hO1.shape
        rw [hlen] at hv1
        subst hv1
        have hz1 := hg1.size
        go_wp2_with (at_builtin; refine wpList_append_ow rfl _ _ rfl N M _ _ (l ++ numB m.length) m rfl hO1 rfl hx1 (by rw [hlen]; unfold numB; omega) (by omega) ?_; intro v2 w2 hO2 hg2 hn2; obtain ⟨b2, c2, hv2, -, -⟩ := hO2.shape; rw [List.length_append, hlen] at hv2; subst hv2; have h2 : w2.heap[B]? = some (.cells #[.slice b l.length c, .int .i64 0] 81 (0, 0)) := (hg2.block B (by omega) (fun e => hO1.not_at h1 (by decide) e.symm)).trans h1; have hf2 := frozen_at0 h2; have hc2 := cell_at0 h2)
        go_end0
        have hS : Son w (.slice b l.length c) (.slice b1 (l.length + (numB m.length).length) c1) := Son.of hs1
        have hT2 : Tn w1 w2 B (.slice b1 (l.length + (numB m.length).length) c1) := Tn.of_grown hg2 (fun k e => .inr e)
        refine ⟨rfl, _, Wtr.mk' (e := 0) (by decide) hle h2 hO2, (hT1.trans hS hT2).set 0 _, hS.trans hz1 ?_⟩
        rcases hn2 with hn2 | hn2
        · exact .inr (.inl hn2)
        · exact .inr (.inr ⟨_, hn2, Nat.le_refl _⟩)
  · rw [if_pos he]
    have he' : ((e : Int) != 0) = true := by simp; omega
    go_enter Try.func38, Try.ntmps38
    go_wp2
    refine bodyPost_ret (results_none rfl _ _ _) rfl ?_
    exact ⟨rfl, v, h, Tn.refl _ _ _, Son.refl _ _⟩

/-- The bytes of a text, in new memory. -/
theorem conv_str (w : World) (m : List UInt8) (hm : m.length ≤ 1073741824) : ∃ cap w1, (convert 9 35 (.string ⟨m.toArray⟩)).run Try.prog w = .ok (.slice (some ⟨w.heap.size, 0, none⟩) m.length cap) w1 ∧ Sl w1.heap.size w1 (.slice (some ⟨w.heap.size, 0, none⟩) m.length cap) m ∧ Below w.heap.size w w1 := by
  refine ⟨_, _, run_bytes_of_string w 9 35 5 ⟨m.toArray⟩ Try.underlying9 Try.underlying35 Try.underlying5, ?_, ?_⟩
  · have hsz : (⟨m.toArray⟩ : ByteArray).size = m.length := by simp [ByteArray.size]
    refine ⟨_, _, rfl, ?_, ?_, ?_⟩
    · have := grownCap_ge w m.length 0 5; rw [hsz]; exact this
    · exact grownCap_le_maxLen w _ 0 5 (by rw [hsz]; unfold maxLen; omega)
    · refine .inr ⟨w.heap.size, 0, rfl, by simp, fun i hi => ?_⟩
      have hh := World.cell?_alloc_mark w.drew (bytesRow ⟨m.toArray⟩ (grownCap w (⟨m.toArray⟩ : ByteArray).size 0 5)) 5 ((bytesRow ⟨m.toArray⟩ (grownCap w (⟨m.toArray⟩ : ByteArray).size 0 5)).size, (bytesRow ⟨m.toArray⟩ (grownCap w (⟨m.toArray⟩ : ByteArray).size 0 5)).size + 1) (0 + i)
      refine Eq.trans hh ?_
      unfold bytesRow
      rw [Nat.zero_add, Array.getElem?_append_left (by simpa using hi)]
      simp [encB, hi]
  · exact ((Below.refl _ w).drew).alloc (Nat.le_refl _) _

set_option maxRecDepth 100000 in
set_option maxHeartbeats 2000000 in
theorem wwText_any (N B : Nat) (v : Value) (l m : List UInt8) (e : Nat) (most : Int) (w : World) (h : Wtr 81 N w B v l e) (hl : l.length ≤ 1073741824) (hm : m.length ≤ 1073741824) :
    Calls Try.prog 23 #[.pointer (some ⟨B, 0, none⟩), .string ⟨m.toArray⟩, .int .i64 most] w fun r w' => r = .returned (.tuple #[]) ∧ ∃ v', Wtr 81 N w' B v' (wBytes l e m most).1 (wBytes l e m most).2 ∧ Tn w w' B v ∧ Son w v v' := by
  obtain ⟨cap, w1, hcv, hs1, hB1⟩ := conv_str w m hm
  have h1 := h.below hB1 (Nat.le_refl _)
  have hlt := h.lt
  have hvl : ∀ k, v.ownBlock = some k → k < w.heap.size := fun k hk => (World.ownsRow.lt h.ow k hk).2
  have hz := hB1.size
  have cW := wwBytes_any N B w1.heap.size v _ l m e most w1 h1 hl hm hs1 (Nat.le_refl _) (fun _ => ⟨by simp [Value.ownBlock]; omega, fun k hk hv => by simp [Value.ownBlock] at hk; have := hvl k hv; omega⟩)
  go_enter Try.func23, Try.ntmps23
  go_wp2_with (go_at_call 38; refine cW.mono ?_; rintro r w2 ⟨rfl, v2, hW2, hT2, hS2⟩)
  go_end0
  have hT1 : Tn w w1 B v := Tn.of_grown (row := none) ⟨hB1.os, hB1.tape, hB1.output, hB1.size, fun k hk _ => hB1.block k hk⟩ (by simp)
  exact ⟨rfl, v2, hW2, hT1.trans (Son.refl _ _) hT2, (Son.refl w v).trans hz hS2⟩

set_option maxRecDepth 100000 in
set_option maxHeartbeats 2000000 in
theorem wwDone_any (N B : Nat) (v : Value) (l : List UInt8) (e : Nat) (w : World) (h : Wtr 81 N w B v l e) (hl : l.length ≤ 1073741824) :
    Calls Try.prog 24 #[.pointer (some ⟨B, 0, none⟩)] w fun r w' => ∃ u, r = .returned (.tuple #[u, .int .i64 (e : Int)]) ∧ Ow w.heap.size w' u l ∧ Below w.heap.size w w' := by
  obtain ⟨k0, k1, f0, f1⟩ := h.cells
  obtain ⟨b, c, rfl, -, -⟩ := h.ow.shape
  have hlt := h.lt
  have hs : Sl w.heap.size w.drew (.slice b l.length c) l := (h.ow.sl (Nat.le_refl _)).below ⟨rfl, rfl, rfl, Nat.le_refl _, fun _ _ => rfl⟩
  go_enter Try.func24, Try.ntmps24
  go_wp2
  go_region_held3 (fun w' => w'.cell? ⟨B, 0, none⟩ = some (.slice b l.length c) ∧ w'.cell? ⟨B, 1, none⟩ = some (.int .i64 (e : Int))) (go_keep)
    (first | (go_at_call 39; refine (fresh_any _ _ l _ hs (by omega)).mono ?_; rintro r w1 ⟨u, rfl, hO1, hB1⟩; obtain ⟨b1, c1, rfl, -, -⟩ := hO1.shape; have q0 := (hB1.cell (p := ⟨B, 0, none⟩) hlt).trans k0; have q1 := (hB1.cell (p := ⟨B, 1, none⟩) hlt).trans k1))
  have hBB : Below w.heap.size w w1 := ⟨hB1.os, hB1.tape, hB1.output, hB1.size, hB1.block⟩
  clear q0 q1 hs
  go_wp2
  go_ret2
  exact ⟨_, rfl, hO1, hBB⟩
end Go.Proofs.Ytglhjgfaelfleab
