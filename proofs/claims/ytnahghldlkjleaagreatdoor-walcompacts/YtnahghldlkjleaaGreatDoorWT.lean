/-
  The text of a record. The text of a record, made. Records in memory; their texts, one behind the other. Records are written behind the last segment's others.
-/
import Derived.Test.YtnahghldlkjleaaGreatDoorWj
import Derived.Test.YtnahghldlkjleaaGreatDoorCe
import Derived.Test.YtnahghldlkjleaaGreatDoorWM
import Derived.Test.YtnahghldlkjleaaGreatDoorFj
namespace Go.Proofs.YtnahghldlkjleaaGreatDoor.Cd
open Go.RowKit
set_option linter.unusedVariables false

theorem Wr.below' {w0 w w' : World} {l : List UInt8} (h : Wr w0 w l) (hB : Below w.heap.size w w') : Wr w0 w' l := by
  obtain ⟨⟨v, hW⟩, hb⟩ := h
  exact ⟨⟨v, hW.below hB (Nat.le_refl _)⟩, hb.trans (hB.mono hb.size)⟩
theorem wrInt_keep (n : Int) {w0 w : World} {l : List UInt8} (h : Wr w0 w l) (hl : l.length ≤ 1073741824) (hn : isNumB n = true) :
    Calls Tryz.prog 216 #[.pointer (some ⟨w0.heap.size, 0, none⟩), .int .i64 n] w fun r w' => r = .returned (.tuple #[]) ∧ Wr w0 w' (l ++ numB n.toNat) ∧ ∀ (R : Nat) (cs : Array Value) (t : TypeId) (z : Nat × Nat), w.heap[R]? = some (.cells cs t z) → t ≠ 5 → R ≠ w0.heap.size → w'.heap[R]? = some (.cells cs t z) := by
  obtain ⟨⟨v, hW⟩, hB⟩ := h
  refine (wwInt_any _ _ v l 0 n w hW hl).mono ?_
  rintro r w' ⟨rfl, v', hW', hT, -⟩
  rw [wInt_ok l n hn] at hW'
  refine ⟨rfl, ⟨⟨v', hW'⟩, Tn.bel hW hB hT⟩, fun R cs t z hR ht hne => (hT.block R (Array.getElem?_eq_some_iff.1 hR).1 hne ?_).trans hR⟩
  exact hW.ow.not_at hR ht

/-- Bytes that were made behind the writer. -/
theorem wrBytes_new (most : Int) {w0 w w' : World} {l m : List UInt8} {x : Value} (h : Wr w0 w l) (hB : Below w.heap.size w w') (hx : Ow w.heap.size w' x m) (hl : l.length ≤ 1073741824) (hm : m.length ≤ 1073741824) (hmost : (m.length : Int) ≤ most) :
    Calls Tryz.prog 219 #[.pointer (some ⟨w0.heap.size, 0, none⟩), x, .int .i64 most] w' fun r w2 => r = .returned (.tuple #[]) ∧ Wr w0 w2 (l ++ (numB m.length ++ m)) := by
  obtain ⟨⟨v, hW⟩, hb⟩ := h
  have hW1 := hW.below hB (Nat.le_refl _)
  have hlt := hW.lt
  refine (wwBytes_any _ _ w'.heap.size v x l m 0 most w' hW1 hl hm (hx.sl (Nat.le_refl _)) (Nat.le_refl _) (fun _ => ⟨fun e => ?_, fun k hk hv => ?_⟩)).mono ?_
  · have := (World.ownsRow.lt hx _ e).1; omega
  · have h1 := (World.ownsRow.lt hx _ hk).1
    have h2 := (World.ownsRow.lt hW.ow _ hv).2
    omega
  · rintro r w2 ⟨rfl, v', hW', hT, -⟩
    rw [wBytes_ok l m most hmost] at hW'
    exact ⟨rfl, ⟨v', hW'⟩, Tn.bel hW1 (hb.trans (hB.mono hb.size)) hT⟩

set_option maxRecDepth 100000 in
theorem putState_any {w0 w : World} {l : List UInt8} (h : Wr w0 w l) (hl : l.length ≤ 1000000) (t v c : Int) (ht : isNumB t = true) (hv : isNumB v = true) (hc : isNumB c = true) :
    Calls Tryz.prog 217 #[.pointer (some ⟨w0.heap.size, 0, none⟩), .agg #[.int .i64 t, .int .i64 v, .int .i64 c]] w fun r w' => r = .returned (.tuple #[]) ∧ Wr w0 w' (((l ++ numB t.toNat) ++ numB v.toNat) ++ numB c.toNat) := by
  obtain ⟨W1, hW1⟩ : ∃ W1, w.alloc (.cells #[.int .i64 t, .int .i64 v, .int .i64 c] 36) = W1 := ⟨_, rfl⟩
  have HW : Hid (_ = W1) := hW1
  have hB : Below w.heap.size w W1 := by rw [← hW1]; exact (Below.refl _ w).alloc (Nat.le_refl _) _
  have hR : W1.heap[w.heap.size]? = some (.cells #[.int .i64 t, .int .i64 v, .int .i64 c] 36 (0, 0)) := by rw [← hW1]; exact World.alloc_heap_new w _
  have h1 := h.below' hB
  have b1 := numB_len t.toNat
  have b2 := numB_len v.toNat
  have b3 := numB_len c.toNat
  obtain ⟨⟨u, hu⟩, -⟩ := h
  have hlt := hu.lt
  have hne : w.heap.size ≠ w0.heap.size := by omega
  have HC : Hid (∀ V : World, V.heap[w.heap.size]? = some (.cells #[.int .i64 t, .int .i64 v, .int .i64 c] 36 (0, 0)) → V.cell? ⟨w.heap.size, 0, none⟩ = some (.int .i64 t) ∧ V.cell? ⟨w.heap.size, 1, none⟩ = some (.int .i64 v) ∧ V.cell? ⟨w.heap.size, 2, none⟩ = some (.int .i64 c)) := fun V hV => by
    refine ⟨?_, ?_, ?_⟩ <;> (simp only [World.cell?, hV]; rfl)
  obtain ⟨q0, q1, q2⟩ := HC.out W1 hR
  have H1 : Hid (Wr w0 W1 l ∧ W1.heap[w.heap.size]? = some (.cells #[.int .i64 t, .int .i64 v, .int .i64 c] 36 (0, 0))) := ⟨h1, hR⟩
  clear hW1 hB hR h1 hu
  go_enter Tryz.func217, Tryz.ntmps217
  go_upto_region 1 with fail
  rw [HW.out]
  go_wp2_with fail
  refine (wrInt_keep t H1.out.1 (by omega) ht).mono ?_
  rintro r w2 ⟨rfl, h2, k2⟩
  have r2 := k2 _ _ _ _ H1.out.2 (by decide) hne
  obtain ⟨d0, d1, d2⟩ := HC.out w2 r2
  clear q0 q1 q2 k2 H1
  go_wp2_with fail
  refine (wrInt_keep v h2 (by simp <;> omega) hv).mono ?_
  rintro r w3 ⟨rfl, h3, k3⟩
  have r3 := k3 _ _ _ _ r2 (by decide) hne
  obtain ⟨e0, e1, e2⟩ := HC.out w3 r3
  clear d0 d1 d2 k3
  go_wp2_with fail
  refine (wrInt_keep c h3 (by simp <;> omega) hc).mono ?_
  rintro r w4 ⟨rfl, h4, -⟩
  (try go_wp2)
  go_end0
  exact ⟨rfl, h4⟩
end Go.Proofs.YtnahghldlkjleaaGreatDoor.Cd
namespace Go.Proofs.YtnahghldlkjleaaGreatDoor
open Go.RowKit
set_option linter.unusedVariables false

theorem Rng.num {n : Int} (h : Rng n) : Cd.isNumB n = true := by unfold Cd.isNumB Rng at *; simpa using h
/-- The text of an entry. -/
def txE (e : En) : List UInt8 := Cd.txEntry (eT e) (eI e) (eK e) (eD e)
/-- The text of a record. -/
def Rd.tx (r : Rd) : List UInt8 :=
  if r.k = 0 then Cd.numB 0 ++ Cd.numB r.sg ++ Cd.numB r.t.toNat ++ Cd.numB r.v.toNat ++ Cd.numB r.c.toNat ++ Cd.numB r.i.toNat ++ Cd.numB r.tm.toNat
  else if r.k = 1 then Cd.numB 1 ++ Cd.numB r.t.toNat ++ Cd.numB r.v.toNat ++ Cd.numB r.c.toNat
  else if r.k = 2 then Cd.numB 2 ++ (Cd.numB (txE r.e.says).length ++ txE r.e.says)
  else Cd.numB 3 ++ Cd.numB r.i.toNat ++ Cd.numB r.tm.toNat
theorem ckEq (t i k : Int) (n : Nat) : Cd.ckEntry t i k n = ckEntry t i k n := rfl
theorem txE_len {e : En} (h : eCk e = 0) : (txE e).length ≤ 4136 := by
  have h1 := (eCk_ok h).2.2.2.2
  have b1 := Cd.numB_len (eT e).toNat
  have b2 := Cd.numB_len (eI e).toNat
  have b3 := Cd.numB_len (eK e).toNat
  have b4 := Cd.numB_len (eD e).length
  unfold txE Cd.txEntry
  simp only [List.length_append]
  omega
/-- A record whose numbers a text may tell. -/
structure Rd.Num (r : Rd) : Prop where
  kd : r.k ≤ 3
  sg : r.sg ≤ 99999999
  st : Rng r.t ∧ Rng r.v ∧ Rng r.c
  mrk : Rng r.i ∧ Rng r.tm
  ent : r.k = 2 → eCk r.e.says = 0
theorem Rd.tx_len {r : Rd} (h : r.Num) : r.tx.length ≤ 4200 := by
  have b0 := Cd.numB_len r.sg
  have b1 := Cd.numB_len r.t.toNat
  have b2 := Cd.numB_len r.v.toNat
  have b3 := Cd.numB_len r.c.toNat
  have b4 := Cd.numB_len r.i.toNat
  have b5 := Cd.numB_len r.tm.toNat
  have b6 := Cd.numB_len (txE r.e.says).length
  have c0 := Cd.numB_len 0
  have c1 := Cd.numB_len 1
  have c2 := Cd.numB_len 2
  have c3 := Cd.numB_len 3
  unfold Rd.tx
  split
  · simp only [List.length_append]; omega
  · split
    · simp only [List.length_append]; omega
    · split
      · rename_i hk
        have := txE_len (h.ent hk)
        simp only [List.length_append]; omega
      · simp only [List.length_append]; omega
end Go.Proofs.YtnahghldlkjleaaGreatDoor
namespace Go.Proofs.YtnahghldlkjleaaGreatDoor
open Go.RowKit
set_option linter.unusedVariables false

set_option maxRecDepth 100000 in
set_option maxHeartbeats 1000000 in
theorem textOf_any (r : Rd) (hr : r.Num) (w : World) (hx : Sl w.heap.size w r.e.x r.e.d) :
    Calls Tryz.prog 172 #[r.val] w fun e w' => ∃ u, e = .returned u ∧ Ow w.heap.size w' u r.tx ∧ Below w.heap.size w w' := by
  obtain ⟨W1, hW1⟩ : ∃ W1, w.alloc (.cells #[.int .i64 (r.k : Int), .int .i64 (r.sg : Int), .int .i64 r.t, .int .i64 r.v, .int .i64 r.c, .int .i64 r.i, .int .i64 r.tm, .int .i64 r.e.t, .int .i64 r.e.i, .int .i64 r.e.k, r.e.x] 177) = W1 := ⟨_, rfl⟩
  have HW : Hid (_ = W1) := hW1
  have hB : Below w.heap.size w W1 := by rw [← hW1]; exact (Below.refl _ w).alloc (Nat.le_refl _) _
  have hz1 : W1.heap.size = w.heap.size + 1 := by rw [← hW1]; simp
  have hR : W1.heap[w.heap.size]? = some (.cells #[.int .i64 (r.k : Int), .int .i64 (r.sg : Int), .int .i64 r.t, .int .i64 r.v, .int .i64 r.c, .int .i64 r.i, .int .i64 r.tm, .int .i64 r.e.t, .int .i64 r.e.i, .int .i64 r.e.k, r.e.x] 177 (0, 0)) := by rw [← hW1]; exact heap_alloc_new w _
  have HC : Hid (∀ V, Below W1.heap.size W1 V → V.cell? ⟨w.heap.size, 0, none⟩ = some (.int .i64 (r.k : Int)) ∧ V.cell? ⟨w.heap.size, 1, none⟩ = some (.int .i64 (r.sg : Int)) ∧ V.cell? ⟨w.heap.size, 2, none⟩ = some (.int .i64 r.t) ∧ V.cell? ⟨w.heap.size, 3, none⟩ = some (.int .i64 r.v) ∧ V.cell? ⟨w.heap.size, 4, none⟩ = some (.int .i64 r.c) ∧ V.cell? ⟨w.heap.size, 5, none⟩ = some (.int .i64 r.i) ∧ V.cell? ⟨w.heap.size, 6, none⟩ = some (.int .i64 r.tm) ∧ V.cell? ⟨w.heap.size, 7, none⟩ = some (.int .i64 r.e.t) ∧ V.cell? ⟨w.heap.size, 8, none⟩ = some (.int .i64 r.e.i) ∧ V.cell? ⟨w.heap.size, 9, none⟩ = some (.int .i64 r.e.k) ∧ V.cell? ⟨w.heap.size, 10, none⟩ = some r.e.x) := fun V hV =>
    (cells11 ((hV.block _ (by omega)).trans hR)).1
  have HF : Hid (∀ (w9 : World) u l, Ow W1.heap.size w9 u l → Below W1.heap.size W1 w9 → Ow w.heap.size w9 u l ∧ Below w.heap.size w w9) := fun w9 u l h1 h2 => ⟨h1.base hB.size, hB.trans (h2.mono hB.size)⟩
  have HX : Hid (Sl w.heap.size W1 r.e.x r.e.d) := hx.below hB
  have ik := (show Rng (r.k : Int) from ⟨by omega, by have := hr.kd; omega⟩).num
  have is := (show Rng (r.sg : Int) from ⟨by omega, by have := hr.sg; omega⟩).num
  have it := hr.st.1.num
  have iv := hr.st.2.1.num
  have ic := hr.st.2.2.num
  have ii := hr.mrk.1.num
  have im := hr.mrk.2.num
  have b0 := Cd.numB_len (r.sg : Int).toNat
  have b1 := Cd.numB_len r.t.toNat
  have b2 := Cd.numB_len r.v.toNat
  have b3 := Cd.numB_len r.c.toNat
  have b4 := Cd.numB_len r.i.toNat
  have b5 := Cd.numB_len r.tm.toNat
  have b7 := Cd.numB_len (r.k : Int).toNat
  have HE : Hid (r.k = 2 → eCk r.e.says = 0) := hr.ent
  have hkd := hr.kd
  have HZ1 : Hid (W1.heap.size = w.heap.size + 1) := hz1
  clear hW1 hB hR hx hr hz1
  unfold Rd.val
  obtain ⟨c0, c1, c2, c3, c4, c5, c6, c7, c8, c9, c10⟩ := HC.out W1 (Below.refl _ _)
  rcases (by omega : r.k = 0 ∨ r.k = 1 ∨ r.k = 2 ∨ r.k = 3) with hk | hk | hk | hk
  · have HT : Hid (r.tx = (((((([] ++ Cd.numB (r.k : Int).toNat) ++ Cd.numB (r.sg : Int).toNat) ++ Cd.numB r.t.toNat) ++ Cd.numB r.v.toNat) ++ Cd.numB r.c.toNat) ++ Cd.numB r.i.toNat) ++ Cd.numB r.tm.toNat) := by show _ = _; unfold Rd.tx; rw [if_pos hk, hk]; simp
    have hk0 : ((r.k : Int) == 0) = true := by simp [hk]
    rw [HT.out]
    clear HE hk hkd HX
    generalize (r.k : Int) = kk at *
    generalize (r.sg : Int) = ss at *
    go_enter Tryz.func172, Tryz.ntmps172
    go_upto_region 1 with fail
    rw [HW.out]
    go_wp2_with fail
    refine (Cd.newW_any W1).mono ?_
    rintro e w2 ⟨rfl, h2⟩
    obtain ⟨d0, d1, d2, d3, d4, d5, d6, -⟩ := HC.out w2 h2.bel
    clear c0 c1 c2 c3 c4 c5 c6 c7 c8 c9 c10
    go_wp2_with fail
    refine (Cd.wrInt_any kk h2 (by simp <;> omega) ik).mono ?_
    rintro e w3 ⟨rfl, h3⟩
    obtain ⟨c0, c1, c2, c3, c4, c5, c6, -⟩ := HC.out w3 h3.bel
    clear d0 d1 d2 d3 d4 d5 d6
    go_wp2_with fail
    refine (Cd.wrInt_any ss h3 (by simp <;> omega) is).mono ?_
    rintro e w4 ⟨rfl, h4⟩
    obtain ⟨d0, d1, d2, d3, d4, d5, d6, -⟩ := HC.out w4 h4.bel
    clear c0 c1 c2 c3 c4 c5 c6
    go_wp2_with fail
    refine (Cd.putState_any h4 (by simp <;> omega) r.t r.v r.c it iv ic).mono ?_
    rintro e w5 ⟨rfl, h5⟩
    obtain ⟨c0, c1, c2, c3, c4, c5, c6, -⟩ := HC.out w5 h5.bel
    clear d0 d1 d2 d3 d4 d5 d6
    go_wp2_with fail
    refine (Cd.wrInt_any r.i h5 (by simp <;> omega) ii).mono ?_
    rintro e w6 ⟨rfl, h6⟩
    obtain ⟨d0, d1, d2, d3, d4, d5, d6, -⟩ := HC.out w6 h6.bel
    clear c0 c1 c2 c3 c4 c5 c6
    go_wp2_with fail
    refine (Cd.wrInt_any r.tm h6 (by simp <;> omega) im).mono ?_
    rintro e w7 ⟨rfl, h7⟩
    go_wp2_with fail
    refine (Cd.wrDone_any h7 (by simp <;> omega)).mono ?_
    rintro e w9 ⟨u, rfl, hO, hB9⟩
    obtain ⟨f1, f2⟩ := HF.out w9 u _ hO hB9
    go_wp2
    go_ret
    exact ⟨u, rfl, f1, f2⟩
  · have HT : Hid (r.tx = ((([] ++ Cd.numB (r.k : Int).toNat) ++ Cd.numB r.t.toNat) ++ Cd.numB r.v.toNat) ++ Cd.numB r.c.toNat) := by show _ = _; unfold Rd.tx; rw [if_neg (by omega), if_pos hk, hk]; simp
    have hk0 : ((r.k : Int) == 0) = false := by simp [hk]
    have hk1 : ((r.k : Int) == 1) = true := by simp [hk]
    rw [HT.out]
    clear HE hk hkd HX
    generalize (r.k : Int) = kk at *
    generalize (r.sg : Int) = ss at *
    go_enter Tryz.func172, Tryz.ntmps172
    go_upto_region 1 with fail
    rw [HW.out]
    go_wp2_with fail
    refine (Cd.newW_any W1).mono ?_
    rintro e w2 ⟨rfl, h2⟩
    obtain ⟨d0, d1, d2, d3, d4, d5, d6, -⟩ := HC.out w2 h2.bel
    clear c0 c1 c2 c3 c4 c5 c6 c7 c8 c9 c10
    go_wp2_with fail
    refine (Cd.wrInt_any kk h2 (by simp <;> omega) ik).mono ?_
    rintro e w3 ⟨rfl, h3⟩
    obtain ⟨c0, c1, c2, c3, c4, c5, c6, -⟩ := HC.out w3 h3.bel
    clear d0 d1 d2 d3 d4 d5 d6
    go_wp2_with fail
    refine (Cd.putState_any h3 (by simp <;> omega) r.t r.v r.c it iv ic).mono ?_
    rintro e w5 ⟨rfl, h5⟩
    go_wp2_with fail
    refine (Cd.wrDone_any h5 (by simp <;> omega)).mono ?_
    rintro e w9 ⟨u, rfl, hO, hB9⟩
    obtain ⟨f1, f2⟩ := HF.out w9 u _ hO hB9
    go_wp2
    go_ret
    exact ⟨u, rfl, f1, f2⟩
  · have hck := HE.out hk
    have hte := txE_len hck
    have HT : Hid (r.tx = ([] ++ Cd.numB (r.k : Int).toNat) ++ (Cd.numB (txE r.e.says).length ++ txE r.e.says)) := by show _ = _; unfold Rd.tx; rw [if_neg (by omega), if_neg (by omega), if_pos hk, hk]; simp
    have hk0 : ((r.k : Int) == 0) = false := by simp [hk]
    have hk1 : ((r.k : Int) == 1) = false := by simp [hk]
    have hk2 : ((r.k : Int) == 2) = true := by simp [hk]
    rw [HT.out]
    have HP : Hid (∀ w3 : World, Below W1.heap.size W1 w3 → Calls Tryz.prog 218 #[.agg #[], .agg #[.int .i64 r.e.t, .int .i64 r.e.i, .int .i64 r.e.k, r.e.x]] w3 fun e w' => ∃ u, e = .returned (.tuple #[u, .int .i64 0]) ∧ Cd.Ow w3.heap.size w' u (txE r.e.says) ∧ Below w3.heap.size w3 w') := fun w3 h3 => by
      have hz1 := HZ1.out
      have hs := HX.out.below ((h3.mono (by omega) : Below w.heap.size W1 w3))
      refine (Cd.putEntry_any r.e.t r.e.i r.e.k r.e.d r.e.a r.e.c w3 w.heap.size hs (by have := h3.size; omega)).mono ?_
      rintro e w' ⟨u, rfl, hO, hB⟩
      have hck' : Cd.ckEntry r.e.t r.e.i r.e.k r.e.d.length = 0 := hck
      rw [hck'] at hO ⊢
      exact ⟨u, rfl, hO, hB⟩
    have htl : (txE r.e.says).length ≤ 8192 := by omega
    have htb := Cd.numB_len (txE r.e.says).length
    clear HE hk hkd HX hck
    generalize txE r.e.says = te at *
    generalize r.e.x = ex at *
    generalize (r.k : Int) = kk at *
    generalize (r.sg : Int) = ss at *
    go_enter Tryz.func172, Tryz.ntmps172
    go_upto_region 1 with fail
    rw [HW.out]
    go_wp2_with fail
    refine (Cd.newW_any W1).mono ?_
    rintro e w2 ⟨rfl, h2⟩
    obtain ⟨d0, d1, d2, d3, d4, d5, d6, -⟩ := HC.out w2 h2.bel
    clear c0 c1 c2 c3 c4 c5 c6 c7 c8 c9 c10
    go_wp2_with fail
    refine (Cd.wrInt_any kk h2 (by simp <;> omega) ik).mono ?_
    rintro e w3 ⟨rfl, h3⟩
    obtain ⟨c0, c1, c2, c3, c4, c5, c6, c7, c8, c9, c10⟩ := HC.out w3 h3.bel
    clear d0 d1 d2 d3 d4 d5 d6
    go_wp2_with (go_at_call 218; refine (HP.out w3 h3.bel).mono ?_; rintro e w4 ⟨u, rfl, hu, hB4⟩)
    refine (Cd.wrBytes_new 8192 h3 hB4 hu (by simp <;> omega) (by omega) (by omega)).mono ?_
    rintro e w7 ⟨rfl, h7⟩
    go_wp2_with fail
    refine (Cd.wrDone_any h7 (by simp <;> omega)).mono ?_
    rintro e w9 ⟨u', rfl, hO, hB9⟩
    obtain ⟨f1, f2⟩ := HF.out w9 u' _ hO hB9
    go_wp2
    go_ret
    exact ⟨u', rfl, f1, f2⟩
  · have HT : Hid (r.tx = ((([] ++ Cd.numB (r.k : Int).toNat) ++ Cd.numB r.i.toNat) ++ Cd.numB r.tm.toNat)) := by show _ = _; unfold Rd.tx; rw [if_neg (by omega), if_neg (by omega), if_neg (by omega), hk]; simp
    have hk0 : ((r.k : Int) == 0) = false := by simp [hk]
    have hk1 : ((r.k : Int) == 1) = false := by simp [hk]
    have hk2 : ((r.k : Int) == 2) = false := by simp [hk]
    have hk3 : ((r.k : Int) == 3) = true := by simp [hk]
    rw [HT.out]
    clear HE hk hkd HX
    generalize (r.k : Int) = kk at *
    generalize (r.sg : Int) = ss at *
    go_enter Tryz.func172, Tryz.ntmps172
    go_upto_region 1 with fail
    rw [HW.out]
    go_wp2_with fail
    refine (Cd.newW_any W1).mono ?_
    rintro e w2 ⟨rfl, h2⟩
    obtain ⟨d0, d1, d2, d3, d4, d5, d6, -⟩ := HC.out w2 h2.bel
    clear c0 c1 c2 c3 c4 c5 c6 c7 c8 c9 c10
    go_wp2_with fail
    refine (Cd.wrInt_any kk h2 (by simp <;> omega) ik).mono ?_
    rintro e w3 ⟨rfl, h3⟩
    obtain ⟨c0, c1, c2, c3, c4, c5, c6, -⟩ := HC.out w3 h3.bel
    clear d0 d1 d2 d3 d4 d5 d6
    go_wp2_with fail
    refine (Cd.wrInt_any r.i h3 (by simp <;> omega) ii).mono ?_
    rintro e w4 ⟨rfl, h4⟩
    obtain ⟨d0, d1, d2, d3, d4, d5, d6, -⟩ := HC.out w4 h4.bel
    clear c0 c1 c2 c3 c4 c5 c6
    go_wp2_with fail
    refine (Cd.wrInt_any r.tm h4 (by simp <;> omega) im).mono ?_
    rintro e w7 ⟨rfl, h7⟩
    go_wp2_with fail
    refine (Cd.wrDone_any h7 (by simp <;> omega)).mono ?_
    rintro e w9 ⟨u, rfl, hO, hB9⟩
    obtain ⟨f1, f2⟩ := HF.out w9 u _ hO hB9
    go_wp2
    go_ret
    exact ⟨u, rfl, f1, f2⟩
end Go.Proofs.YtnahghldlkjleaaGreatDoor
namespace Go.Proofs.YtnahghldlkjleaaGreatDoor
open Go.RowKit
set_option linter.unusedVariables false

/-- Rows of records; rows of texts. -/
def RR : RK Rd where
  E := 177
  S := 173
  k := 11
  bytes := 104
  z := .agg #[.int .i64 0, .int .i64 0, .int .i64 0, .int .i64 0, .int .i64 0, .int .i64 0, .int .i64 0, .int .i64 0, .int .i64 0, .int .i64 0, .slice none 0 0]
  enc := Rd.cells
  len := fun _ => rfl
  one := fun x v hv => by simp [Rd.cells] at hv; rcases hv with rfl | rfl | rfl | rfl | rfl | rfl | rfl | rfl | rfl | rfl | rfl <;> rfl
  pos := by decide
  und := Tryz.underlying173
  info := by kernel_rfl
  zc := rfl
  by64 := by decide
abbrev Tx := Option Addr × Nat × List UInt8
def Tx.v (x : Tx) : Value := .slice x.1 x.2.2.length x.2.1
def RP : RK Tx where
  E := 55
  S := 82
  k := 1
  bytes := 24
  z := .slice none 0 0
  enc := fun x => [.slice x.1 x.2.2.length x.2.1]
  len := fun _ => rfl
  one := fun x v hv => by simp at hv; rcases hv with rfl; rfl
  pos := by decide
  und := Tryz.underlying82
  info := by kernel_rfl
  zc := rfl
  by64 := by decide

/-- Records at a place. -/
def RdsAt (w : World) (a : Option Addr) (rs : List Rd) : Prop := rs = [] ∨ ∃ b off, a = some ⟨b, off, none⟩ ∧ b < w.heap.size ∧ ∀ i (hi : i < rs.length) j, j < 11 → w.cell? ⟨b, off + i * 11 + j, none⟩ = (rs[i]).cells[j]?
theorem RdsAt.below {w w' : World} {a : Option Addr} {rs : List Rd} (h : RdsAt w a rs) (hB : Below w.heap.size w w') : RdsAt w' a rs := by
  rcases h with h | ⟨b, off, ha, hb, hc⟩
  · exact .inl h
  · exact .inr ⟨b, off, ha, Nat.lt_of_lt_of_le hb hB.size, fun i hi j hj => (hB.cell (p := ⟨b, off + i * 11 + j, none⟩) hb).trans (hc i hi j hj)⟩
theorem Ro.rds {N : Nat} {w : World} {v : Value} {rs : List Rd} (h : Ro RR N w v rs) : ∃ a c, v = .slice a rs.length c ∧ rs.length ≤ c ∧ c ≤ maxLen ∧ RdsAt w a rs := by
  obtain ⟨a, c, rfl, h1, h2⟩ := h.shape
  refine ⟨a, c, rfl, h1, h2, ?_⟩
  by_cases hz : rs.length = 0
  · exact .inl (List.length_eq_zero_iff.1 hz)
  · obtain ⟨g, cap, he, -, hg, -, hc⟩ := h.at0 (by omega)
    cases he
    exact .inr ⟨g, 0, rfl, hg, fun i hi j hj => by rw [Nat.zero_add]; exact hc i j hi hj⟩

theorem sets11 (cs : Array Value) (hz : cs.size = 11) (y0 y1 y2 y3 y4 y5 y6 y7 y8 y9 y10 : Value) :
    ((((((((((cs.setIfInBounds 0 y0).setIfInBounds 1 y1).setIfInBounds 2 y2).setIfInBounds 3 y3).setIfInBounds 4 y4).setIfInBounds 5 y5).setIfInBounds 6 y6).setIfInBounds 7 y7).setIfInBounds 8 y8).setIfInBounds 9 y9).setIfInBounds 10 y10 = #[y0, y1, y2, y3, y4, y5, y6, y7, y8, y9, y10] := by
  apply Array.ext'
  simp only [Array.toList_setIfInBounds]
  have hl : cs.toList.length = 11 := by simpa using hz
  match cs.toList, hl with
  | [a0, a1, a2, a3, a4, a5, a6, a7, a8, a9, a10], _ => simp
theorem set11 {w : World} {B : Nat} {t : TypeId} {cs : Array Value} (h : w.heap[B]? = some (.cells cs t (0, 0))) (hz : cs.size = 11) (y0 y1 y2 y3 y4 y5 y6 y7 y8 y9 y10 : Value) :
    (((((((((((w.setCell ⟨B, 0, none⟩ y0).setCell ⟨B, 1, none⟩ y1).setCell ⟨B, 2, none⟩ y2).setCell ⟨B, 3, none⟩ y3).setCell ⟨B, 4, none⟩ y4).setCell ⟨B, 5, none⟩ y5).setCell ⟨B, 6, none⟩ y6).setCell ⟨B, 7, none⟩ y7).setCell ⟨B, 8, none⟩ y8).setCell ⟨B, 9, none⟩ y9).setCell ⟨B, 10, none⟩ y10).heap[B]? = some (.cells #[y0, y1, y2, y3, y4, y5, y6, y7, y8, y9, y10] t (0, 0)) := by
  rw [heap_set (heap_set (heap_set (heap_set (heap_set (heap_set (heap_set (heap_set (heap_set (heap_set (heap_set h 0 y0) 1 y1) 2 y2) 3 y3) 4 y4) 5 y5) 6 y6) 7 y7) 8 y8) 9 y9) 10 y10, sets11 cs hz]
theorem bel_set11 {w W : World} (h : Below w.heap.size w W) {B : Nat} (hB : w.heap.size ≤ B) (y0 y1 y2 y3 y4 y5 y6 y7 y8 y9 y10 : Value) :
    Below w.heap.size w (((((((((((W.setCell ⟨B, 0, none⟩ y0).setCell ⟨B, 1, none⟩ y1).setCell ⟨B, 2, none⟩ y2).setCell ⟨B, 3, none⟩ y3).setCell ⟨B, 4, none⟩ y4).setCell ⟨B, 5, none⟩ y5).setCell ⟨B, 6, none⟩ y6).setCell ⟨B, 7, none⟩ y7).setCell ⟨B, 8, none⟩ y8).setCell ⟨B, 9, none⟩ y9).setCell ⟨B, 10, none⟩ y10) :=
  bel_set' (bel_set' (bel_set' (bel_set' (bel_set' (bel_set' (bel_set' (bel_set' (bel_set' (bel_set' (bel_set' h hB) hB) hB) hB) hB) hB) hB) hB) hB) hB) hB

/-- Texts of the call's own. -/
structure Txs (N : Nat) (w : World) (v : Value) (ps : List Tx) : Prop where
  row : Ro RP N w v ps
  dat : ∀ p ∈ ps, Ow N w p.v p.2.2
theorem Txs.below {N : Nat} {w w' : World} {v : Value} {ps : List Tx} (h : Txs N w v ps) (hB : Below w.heap.size w w') : Txs N w' v ps :=
  ⟨h.row.below hB (Nat.le_refl _), fun p hp => (h.dat p hp).below hB (Nat.le_refl _)⟩
theorem Txs.push {N : Nat} {w w' W : World} {v v' : Value} {ps : List Tx} {p : Tx} (h : Txs N w v ps) (hp : Ow N w p.v p.2.2) (hB : Below w.heap.size w W) (hr : Ro RP N w' v' (ps ++ [p])) (hg : W.grownBy w' v.ownBlock) : Txs N w' v' (ps ++ [p]) := by
  refine ⟨hr, fun q hq => ?_⟩
  have hq' : Ow N w q.v q.2.2 := by
    rcases List.mem_append.1 hq with hq | hq
    · exact h.dat q hq
    · obtain rfl := List.mem_singleton.1 hq; exact hp
  refine (hq'.below hB (Nat.le_refl _)).kept hg ?_
  cases hv : v.ownBlock with
  | none => cases hqv : q.v.ownBlock with
    | none => exact .inl rfl
    | some g => exact .inr (fun e => by cases e)
  | some g =>
    obtain ⟨cur, hg⟩ := h.row.obj hv
    exact .inr (hq'.not_at' hg (fun c z e => by cases e))
end Go.Proofs.YtnahghldlkjleaaGreatDoor
namespace Go.Proofs.YtnahghldlkjleaaGreatDoor
open Go.RowKit
set_option linter.unusedVariables false

/-- The bytes of records: their frames. -/
def txsB (rs : List Rd) : List UInt8 := Fr.joinB (rs.map Rd.tx)
theorem txsB_len : ∀ {rs : List Rd}, (∀ r ∈ rs, r.Num) → (txsB rs).length ≤ rs.length * 4208
  | [], _ => by simp [txsB, Fr.joinB]
  | r :: q, h => by
    have h1 := txsB_len (rs := q) (fun x hx => h x (List.mem_cons_of_mem _ hx))
    have h2 := Rd.tx_len (h r (List.mem_cons_self ..))
    unfold txsB Fr.joinB at *
    simp only [List.map_cons, List.flatten_cons, List.length_append, Fr.frameB_len, List.length_cons]
    omega
theorem anyLong_rs {rs : List Rd} (h : ∀ r ∈ rs, r.Num) : Fr.anyLong (rs.map Rd.tx) = false := by
  unfold Fr.anyLong
  rw [List.any_eq_false]
  intro l hl
  obtain ⟨r, hr, rfl⟩ := List.mem_map.1 hl
  have := Rd.tx_len (h r hr)
  simp; omega
/-- The last segment has so many bytes more. -/
def WS.grow (X : WS) (n : Nat) : WS := { X with sg := X.sg.dropLast ++ [⟨X.last.n, X.last.b + n⟩] }
theorem WS.sg_eq {X : WS} (h : X.sg ≠ []) : X.sg = X.sg.dropLast ++ [X.last] := by
  unfold WS.last
  rw [List.getLastD_eq_getLast?, List.getLast?_eq_some_getLast h]
  exact (List.dropLast_concat_getLast h).symm
theorem Ro.set_last {N : Nat} {w : World} {g n cap : Nat} {ys : List Sg} {a b : Nat} (h : Ro RSg N w (.slice (some ⟨g, 0, none⟩) (n + 1) cap) (ys ++ [⟨a, b⟩])) (hy : ys.length = n) (b' : Nat) :
    Ro RSg N (w.setCell ⟨g, n * 2 + 1, none⟩ (.int .i64 (b' : Int))) (.slice (some ⟨g, 0, none⟩) (n + 1) cap) (ys ++ [⟨a, b'⟩]) := by
  refine ⟨flat_len RSg _, ?_⟩
  rcases h.2 with ⟨e, _⟩ | ⟨g', cap', cur, e, hN, hb, h3, h4, h5, h6⟩
  · cases e
  · simp only [Value.slice.injEq, Option.some.injEq, Addr.mk.injEq, and_true] at e
    obtain ⟨rfl, -, rfl⟩ := e
    have hl : (ys ++ [(⟨a, b'⟩ : Sg)]).length = n + 1 := by simp [hy]
    have hl0 : (ys ++ [(⟨a, b⟩ : Sg)]).length = n + 1 := by simp [hy]
    rw [hl0] at h3 h6
    refine .inr ⟨g, cap, cur.setIfInBounds (n * 2 + 1) (.int .i64 (b' : Int)), by rw [hl], hN, heap_set hb _ _, by rw [hl]; exact h3, h4, by simpa using h5, ?_⟩
    rw [hl, Array.toList_setIfInBounds, List.take_set]
    rw [show (n + 1) * RSg.k = (n + 1) * 2 from rfl] at h6 ⊢
    rw [h6]
    have e1 : ∀ c : Nat, (ys ++ [(⟨a, c⟩ : Sg)]).flatMap RSg.enc = ys.flatMap RSg.enc ++ [.int .i64 (a : Int), .int .i64 (c : Int)] := fun c => by
      rw [List.flatMap_append]; rfl
    have e2 : (ys.flatMap RSg.enc).length = n * 2 := by rw [flat_len, hy]; rfl
    rw [e1, e1, List.set_append, if_neg (by omega), e2]
    congr 1
    rw [show n * 2 + 1 - n * 2 = 1 by omega]
    rfl
theorem WlO.grown {A S L : Nat → Prop} {w : World} {wb d b : Nat} {g n cap : Nat} {k : DS} {X : WS} (h : WlO A S L w wb d b (.slice (some ⟨g, 0, none⟩) (n + 1) cap) k X) (hn : X.sg.length = n + 1) (c : Nat) :
    Wth A w (w.setCell ⟨g, n * 2 + 1, none⟩ (.int .i64 ((X.last.b + c : Nat) : Int))) wb d (X.grow c) := by
  have hne : X.sg ≠ [] := by intro e; rw [e] at hn; simp at hn
  have hs := h.hs
  rw [WS.sg_eq hne] at hs
  have hs2 := hs.set_last (by simp; omega) (X.last.b + c)
  have hgw : g ≠ wb := fun e => h.not_wb (by rw [← e]; rfl)
  have hwh : (w.setCell ⟨g, n * 2 + 1, none⟩ (.int .i64 ((X.last.b + c : Nat) : Int))).heap[wb]? = w.heap[wb]? := Below.heap_setCell _ _ _ _ (by exact fun e => hgw e.symm)
  have hT := h.segs (w' := w.setCell ⟨g, n * 2 + 1, none⟩ (.int .i64 ((X.last.b + c : Nat) : Int))) (sv' := .slice (some ⟨g, 0, none⟩) (n + 1) cap) (br' := X.br) (Out.set (.inr rfl)) (hwh.trans h.hw) hs2 (fun g hg => .inl hg)
  exact hT
end Go.Proofs.YtnahghldlkjleaaGreatDoor
