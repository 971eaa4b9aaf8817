/-
  The loader: a reader, and the first error.
-/
import Derived.Test.YtglhjgfaelfleaaGreatDw
import Derived.Handy
namespace Go.Proofs.YtglhjgfaelfleaaGreat
open Go.RowKit
set_option linter.unusedVariables false

/-- A loader's state: the place, the reader's error, the loader's. -/
structure Ld where
  p : Nat
  e : Nat
  le : Nat
deriving DecidableEq

def mustF (h : Bool) (c : Nat) (t : Ld) : Ld := if h = false ∧ t.le = 0 then ⟨t.p, t.e, c⟩ else t
def lookF (l : Bs) (a : Nat) (t : Ld) : Ld := if t.p = a then mustF false (doneE l t.p t.e) t else t
def numF (l : Bs) (t : Ld) : Nat × Ld := ((pk l t.p t.e).1, lookF l t.p ⟨t.p + (pk l t.p t.e).2.1, (pk l t.p t.e).2.2, t.le⟩)
def texF (l : Bs) (most : Int) (t : Ld) : Bs × Ld := ((takeAt l t.p t.e most).1, lookF l t.p ⟨(takeAt l t.p t.e most).2.1, (takeAt l t.p t.e most).2.2, t.le⟩)
def cntF (l : Bs) (most : Nat) (t : Ld) : Nat × Ld :=
  (if (mustF (decide ((numF l t).1 ≤ most)) 23 (numF l t).2).le = 0 then (numF l t).1 else 0, mustF (decide ((numF l t).1 ≤ most)) 23 (numF l t).2)
def seqF (l : Bs) (t : Ld) : Nat × Ld := ((numF l t).1, mustF (decide (0 < (numF l t).1)) 4 (numF l t).2)
def keptB (n : Nat) : Bool := n == 1 || n == 2 || n == 3 || n == 5
def rplF1 (l : Bs) (t : Ld) : Ld := mustF (keptB (numF l t).1) 4 (numF l t).2
def rplF (l : Bs) (t : Ld) : Rp × Ld := (⟨((numF l t).1 : Int), (texF l 1024 (rplF1 l t)).1⟩, mustF (decide ((texF l 1024 (rplF1 l t)).1 = [] ∨ (numF l t).1 = 3)) 4 (texF l 1024 (rplF1 l t)).2)
def donF (l : Bs) (t : Ld) : Nat := if t.le ≠ 0 then t.le else doneE l t.p t.e

theorem mustF_p (h : Bool) (c : Nat) (t : Ld) : (mustF h c t).p = t.p ∧ (mustF h c t).e = t.e := by unfold mustF; split <;> exact ⟨rfl, rfl⟩
theorem lookF_p (l : Bs) (a : Nat) (t : Ld) : (lookF l a t).p = t.p ∧ (lookF l a t).e = t.e := by unfold lookF; split; exact mustF_p _ _ _; exact ⟨rfl, rfl⟩

/-- Block L holds a loader, by the reader at R. -/
structure Lo (w W : World) (L R : Nat) (l : Bs) (t : Ld) : Prop where
  rdr : Rdr w.heap.size W R l t.p t.e
  len : l.length ≤ 1099511627776
  pl : t.p ≤ l.length
  hd : W.heap[L]? = some (.cells #[.pointer (some ⟨R, 0, none⟩), .int .i64 (t.le : Int)] 54 (0, 0))
  bel : Below w.heap.size w W
  low : w.heap.size ≤ L
def Lx (L R : Nat) : Nat → Prop := fun i => i = L ∨ i = R
theorem Lo.cells {w W : World} {L R : Nat} {l : Bs} {t : Ld} (h : Lo w W L R l t) : W.cell? ⟨L, 0, none⟩ = some (.pointer (some ⟨R, 0, none⟩)) ∧ W.cell? ⟨L, 1, none⟩ = some (.int .i64 (t.le : Int)) ∧ W.frozen? ⟨L, 1, none⟩ = false := by
  refine ⟨?_, ?_, ?_⟩
  · simp only [World.cell?, h.hd]; rfl
  · simp only [World.cell?, h.hd]; rfl
  · simp [World.frozen?, h.hd]
theorem Lo.ne {w W : World} {L R : Nat} {l : Bs} {t : Ld} (h : Lo w W L R l t) : L ≠ R := by
  obtain ⟨cs, z, hR⟩ := h.rdr.at0
  intro e
  have := h.hd
  rw [e, hR] at this
  simp at this
theorem Lo.lt {w W : World} {L R : Nat} {l : Bs} {t : Ld} (h : Lo w W L R l t) : L < W.heap.size ∧ R < W.heap.size := ⟨(Array.getElem?_eq_some_iff.1 h.hd).1, h.rdr.lt⟩
theorem Lo.turnR {w W W' : World} {L R : Nat} {l : Bs} {t : Ld} {p e : Nat} (h : Lo w W L R l t) (h' : Rdr w.heap.size W' R l p e) (hg : W.grownBy W' (some R)) (hp : p ≤ l.length) : Lo w W' L R l ⟨p, e, t.le⟩ ∧ Out (Lx L R) W W' :=
  ⟨⟨h', h.len, hp, (hg.block L h.lt.1 (fun e => h.ne (by cases e; rfl))).trans h.hd, h.bel.grown hg h.bel.size (fun k e => by cases e; exact h.rdr.le), h.low⟩, Out.grown hg (fun j e => by cases e; exact .inr rfl)⟩
theorem Lo.turnE {w W : World} {L R : Nat} {l : Bs} {t : Ld} (h : Lo w W L R l t) (c : Nat) : Lo w (W.setCell ⟨L, 1, none⟩ (.int .i64 (c : Int))) L R l ⟨t.p, t.e, c⟩ ∧ Out (Lx L R) W (W.setCell ⟨L, 1, none⟩ (.int .i64 (c : Int))) := by
  have hO : Out (Lx L R) W (W.setCell ⟨L, 1, none⟩ (.int .i64 (c : Int))) := Out.set (.inl rfl)
  refine ⟨⟨h.rdr.kept (grown_set W L 1 _) (.inr ⟨_, _, _, h.hd, by decide, by decide⟩), h.len, h.pl, ?_, h.bel.grown (grown_set W L 1 _) h.bel.size (fun k e => by cases e; exact h.low), h.low⟩, hO⟩
  show (W.heap.modify L _)[L]? = _
  rw [Array.getElem?_eq_getElem (by rw [Array.size_modify]; exact h.lt.1), Array.getElem_modify_self, (Array.getElem?_eq_some_iff.1 h.hd).2]
  rfl
theorem Rdr.kpt {N mp ms : Nat} {W W' : World} {R : Nat} {l : Bs} {a e : Nat} (h : Rdr N W R l a e) (hk : Kpt mp ms W W') : Rdr N W' R l a e := by
  obtain ⟨hle, v, hR, hO, hvR⟩ := h
  exact ⟨hle, v, hk.2 R _ (by simp) hR, hO.kpt hk, hvR⟩
theorem Lo.kpt {w W W' : World} {L R mp ms : Nat} {l : Bs} {t : Ld} (h : Lo w W L R l t) (hk : Kpt mp ms W W') (hB : Below w.heap.size w W') : Lo w W' L R l t :=
  ⟨h.rdr.kpt hk, h.len, h.pl, hk.2 L _ (by simp) h.hd, hB, h.low⟩
theorem Lo.below {w W W' : World} {L R : Nat} {l : Bs} {t : Ld} (h : Lo w W L R l t) (hB : Below W.heap.size W W') : Lo w W' L R l t :=
  h.kpt (mp := 0) (ms := 0) (Kpt.below hB) (h.bel.trans (hB.mono h.bel.size))

/-- What a call of the loader leaves. -/
def LoR (w W : World) (L R : Nat) (l : Bs) (v : Value) (t : Ld) (e : Ending) (w' : World) : Prop := e = .returned v ∧ Lo w w' L R l t ∧ Out (Lx L R) W w'

set_option maxRecDepth 100000 in
set_option maxHeartbeats 2000000 in
theorem must_any {w W : World} {L R : Nat} {l : Bs} {t : Ld} (h : Lo w W L R l t) (hb : Bool) (c : Nat) :
    Calls Tryz.prog 45 #[.pointer (some ⟨L, 0, none⟩), .bool hb, .int .i64 (c : Int)] W fun e w' => LoR w W L R l (.tuple #[]) (mustF hb c t) e w' := by
  obtain ⟨c0, c1, f1⟩ := h.cells
  have H0 : Hid (Lo w W L R l t) := h
  have H1 : Hid (Lo w (W.setCell ⟨L, 1, none⟩ (.int .i64 (c : Int))) L R l ⟨t.p, t.e, c⟩ ∧ Out (Lx L R) W (W.setCell ⟨L, 1, none⟩ (.int .i64 (c : Int)))) := h.turnE c
  clear h
  obtain ⟨p, e, le⟩ := t
  dsimp only at c1 H1
  cases hb with
  | true =>
    go_enter Tryz.func45, Tryz.ntmps45
    go_wp2
    go_returns
    exact ⟨rfl, H0.out, Out.refl _ _⟩
  | false =>
    by_cases hle : le = 0
    · subst hle
      go_enter Tryz.func45, Tryz.ntmps45
      go_wp2
      go_returns
      exact ⟨rfl, H1.out.1, H1.out.2⟩
    · have hle' : ((le : Int) == 0) = false := by simpa using hle
      have e2 : mustF false c ⟨p, e, le⟩ = ⟨p, e, le⟩ := by unfold mustF; rw [if_neg (by simpa using hle)]
      rw [e2]
      go_enter Tryz.func45, Tryz.ntmps45
      go_wp2
      go_returns
      exact ⟨rfl, H0.out, Out.refl _ _⟩

set_option maxRecDepth 100000 in
set_option maxHeartbeats 2000000 in
theorem look_any {w W : World} {L R : Nat} {l : Bs} {t : Ld} (h : Lo w W L R l t) (a : Nat) :
    Calls Tryz.prog 74 #[.pointer (some ⟨L, 0, none⟩), .int .i64 (a : Int)] W fun e w' => LoR w W L R l (.tuple #[]) (lookF l a t) e w' := by
  obtain ⟨c0, c1, f1⟩ := h.cells
  have H0 : Hid (Lo w W L R l t) := h
  have CA := rAt_any _ R l t.p t.e W h.rdr
  clear h
  go_enter Tryz.func74, Tryz.ntmps74
  go_wp2_with fail
  refine CA.mono ?_
  rintro e w1 ⟨rfl, rfl⟩
  clear CA
  by_cases hp : t.p = a
  · subst hp
    have CD := rDone_any _ R l t.p t.e w1 H0.out.rdr H0.out.len H0.out.pl
    have HD : Hid (Calls _ _ _ _ _) := CD
    clear CD
    go_wp2_with fail
    refine HD.out.mono ?_
    rintro e w2 ⟨rfl, n, rfl⟩
    have hB : Below w1.heap.size w1 (w1.drewN n) := Below.drewN' (Below.refl _ _) n
    have CM := must_any (H0.out.below hB) false (doneE l t.p t.e)
    have HM : Hid (Calls _ _ _ _ _) := CM
    have HOB : Hid (Out (Lx L R) w1 (w1.drewN n)) := Out.of_below hB
    clear CM hB HD
    go_wp2_with fail
    refine HM.out.mono ?_
    rintro e w3 ⟨rfl, h3, hO3⟩
    go_wp2
    go_returns
    refine ⟨rfl, ?_, HOB.out.trans hO3 (fun _ hi _ => hi)⟩
    unfold lookF
    rw [if_pos rfl]
    exact h3
  · have hp' : ((t.p : Int) == (a : Int)) = false := by simp; omega
    go_wp2
    go_returns
    refine ⟨rfl, ?_, Out.refl _ _⟩
    unfold lookF
    rw [if_neg hp]
    exact H0.out

set_option maxRecDepth 100000 in
set_option maxHeartbeats 2000000 in
theorem number_any {w W : World} {L R : Nat} {l : Bs} {t : Ld} (h : Lo w W L R l t) :
    Calls Tryz.prog 47 #[.pointer (some ⟨L, 0, none⟩)] W fun e w' => LoR w W L R l (.int .i64 ((numF l t).1 : Int)) (numF l t).2 e w' := by
  obtain ⟨c0, c1, f1⟩ := h.cells
  have H0 : Hid (Lo w W L R l t) := h
  have CA := rAt_any _ R l t.p t.e W h.rdr
  clear h
  go_enter Tryz.func47, Tryz.ntmps47
  go_wp2_with fail
  refine CA.mono ?_
  rintro e w1 ⟨rfl, rfl⟩
  have CI := rInt_any _ R l t.p t.e w1 H0.out.rdr H0.out.len H0.out.pl
  go_wp2_with fail
  refine CI.mono ?_
  rintro e w2 ⟨rfl, h2, hg2⟩
  obtain ⟨h2', hO2⟩ := H0.out.turnR h2 hg2 ((pk_bd l t.p t.e).2.2.1 H0.out.pl)
  have CL := look_any h2' t.p
  have HL : Hid (Calls _ _ _ _ _) := CL
  have HO2 : Hid (Out (Lx L R) w1 w2) := hO2
  obtain ⟨c0, c1, f1⟩ := h2'.cells
  clear CI CL hO2 h2 h2' hg2 CA
  go_wp2_with fail
  refine HL.out.mono ?_
  rintro e w3 ⟨rfl, h3, hO3⟩
  go_wp2
  go_ret
  exact ⟨rfl, h3, HO2.out.trans hO3 (fun _ hi _ => hi)⟩

set_option maxRecDepth 100000 in
set_option maxHeartbeats 2000000 in
theorem text_any {w W : World} {L R : Nat} {l : Bs} {t : Ld} (h : Lo w W L R l t) (most : Int) :
    Calls Tryz.prog 44 #[.pointer (some ⟨L, 0, none⟩), .int .i64 most] W fun e w' => LoR w W L R l (.string ⟨(texF l most t).1.toArray⟩) (texF l most t).2 e w' := by
  obtain ⟨c0, c1, f1⟩ := h.cells
  have H0 : Hid (Lo w W L R l t) := h
  have CA := rAt_any _ R l t.p t.e W h.rdr
  clear h
  go_enter Tryz.func44, Tryz.ntmps44
  go_wp2_with fail
  refine CA.mono ?_
  rintro e w1 ⟨rfl, rfl⟩
  have CI := rText_any _ R l t.p t.e most w1 H0.out.rdr H0.out.len H0.out.pl
  go_wp2_with fail
  refine CI.mono ?_
  rintro e w2 ⟨rfl, h2, hg2⟩
  obtain ⟨h2', hO2⟩ := H0.out.turnR h2 hg2 (takeAt_le l t.p t.e most H0.out.pl)
  have CL := look_any h2' t.p
  have HL : Hid (Calls _ _ _ _ _) := CL
  have HO2 : Hid (Out (Lx L R) w1 w2) := hO2
  obtain ⟨c0, c1, f1⟩ := h2'.cells
  clear CI CL hO2 h2 h2' hg2 CA
  go_wp2_with fail
  refine HL.out.mono ?_
  rintro e w3 ⟨rfl, h3, hO3⟩
  go_wp2
  go_ret
  exact ⟨rfl, h3, HO2.out.trans hO3 (fun _ hi _ => hi)⟩

set_option maxRecDepth 100000 in
set_option maxHeartbeats 2000000 in
theorem count_any {w W : World} {L R : Nat} {l : Bs} {t : Ld} (h : Lo w W L R l t) (most : Nat) (hm : most ≤ 1000) :
    Calls Tryz.prog 43 #[.pointer (some ⟨L, 0, none⟩), .int .i64 (most : Int)] W fun e w' => LoR w W L R l (.int .i64 ((cntF l most t).1 : Int)) (cntF l most t).2 e w' := by
  have CN := number_any h
  have HUF : Hid (cntF l most t = (if (mustF (decide ((numF l t).1 ≤ most)) 23 (numF l t).2).le = 0 then (numF l t).1 else 0, mustF (decide ((numF l t).1 ≤ most)) 23 (numF l t).2)) := rfl
  rw [HUF.out]
  clear HUF
  generalize numF l t = nt at *
  obtain ⟨n, t1⟩ := nt
  dsimp only at CN ⊢
  have CM := fun V (h1 : Lo w V L R l t1) => must_any h1 (decide (n ≤ most)) 23
  have HM : Hid (∀ V, Lo w V L R l t1 → Calls _ _ _ V _) := CM
  generalize mustF (decide (n ≤ most)) 23 t1 = t2 at *
  clear h CM
  obtain ⟨p2, e2, le2⟩ := t2
  dsimp only at HM ⊢
  have hdd : decide ((n : Int) ≤ (most : Int)) = decide (n ≤ most) := by simp
  by_cases hle : le2 = 0
  · subst hle
    simp only [if_true]
    go_enter Tryz.func43, Tryz.ntmps43
    go_wp2_with fail
    refine CN.mono ?_
    rintro e w1 ⟨rfl, h1, hO1⟩
    have HO1 : Hid (Out (Lx L R) W w1) := hO1
    have HH := HM.out w1 h1
    clear CN hO1 h1 HM
    go_wp2_with fail
    try rw [hdd]
    refine HH.mono ?_
    rintro e w2 ⟨rfl, h2, hO2⟩
    obtain ⟨c0, c1, f1⟩ := h2.cells
    have H2 : Hid (Lo w w2 L R l ⟨p2, e2, 0⟩) := h2
    have HO2 : Hid (Out (Lx L R) W w2) := HO1.out.trans hO2 (fun _ hi _ => hi)
    clear HH h2 hO2 HO1 hdd
    go_wp2
    go_ret
    exact ⟨rfl, H2.out, HO2.out⟩
  · have hle' : ((le2 : Int) != 0) = true := by simpa using hle
    simp only [if_neg hle]
    go_enter Tryz.func43, Tryz.ntmps43
    go_wp2_with fail
    refine CN.mono ?_
    rintro e w1 ⟨rfl, h1, hO1⟩
    have HO1 : Hid (Out (Lx L R) W w1) := hO1
    have HH := HM.out w1 h1
    clear CN hO1 h1 HM
    go_wp2_with fail
    try rw [hdd]
    refine HH.mono ?_
    rintro e w2 ⟨rfl, h2, hO2⟩
    obtain ⟨c0, c1, f1⟩ := h2.cells
    have H2 : Hid (Lo w w2 L R l ⟨p2, e2, le2⟩) := h2
    have HO2 : Hid (Out (Lx L R) W w2) := HO1.out.trans hO2 (fun _ hi _ => hi)
    clear HH h2 hO2 HO1 hdd
    go_wp2
    go_ret
    exact ⟨rfl, H2.out, HO2.out⟩

set_option maxRecDepth 100000 in
set_option maxHeartbeats 2000000 in
theorem seq_any {w W : World} {L R : Nat} {l : Bs} {t : Ld} (h : Lo w W L R l t) :
    Calls Tryz.prog 48 #[.pointer (some ⟨L, 0, none⟩)] W fun e w' => LoR w W L R l (.int .i64 ((seqF l t).1 : Int)) (seqF l t).2 e w' := by
  have CN := number_any h
  have HUF : Hid (seqF l t = ((numF l t).1, mustF (decide (0 < (numF l t).1)) 4 (numF l t).2)) := rfl
  rw [HUF.out]
  clear HUF
  generalize numF l t = nt at *
  obtain ⟨n, t1⟩ := nt
  dsimp only at CN ⊢
  clear h
  go_enter Tryz.func48, Tryz.ntmps48
  go_wp2_with fail
  refine CN.mono ?_
  rintro e w1 ⟨rfl, h1, hO1⟩
  have CM := must_any h1 (decide (0 < n)) 4
  have hdd : decide ((0 : Int) < (n : Int)) = decide (0 < n) := by simp
  have HO1 : Hid (Out (Lx L R) W w1) := hO1
  clear CN hO1 h1
  go_wp2_with fail
  try rw [hdd]
  refine CM.mono ?_
  rintro e w2 ⟨rfl, h2, hO2⟩
  go_wp2
  go_ret
  exact ⟨rfl, h2, HO1.out.trans hO2 (fun _ hi _ => hi)⟩

set_option maxRecDepth 100000 in
set_option maxHeartbeats 2000000 in
theorem ldone_any {w W : World} {L R : Nat} {l : Bs} {t : Ld} (h : Lo w W L R l t) :
    Calls Tryz.prog 23 #[.pointer (some ⟨L, 0, none⟩)] W fun e w' => e = .returned (.int .i64 (donF l t : Int)) ∧ Below W.heap.size W w' := by
  obtain ⟨c0, c1, f1⟩ := h.cells
  have CD := rDone_any _ R l t.p t.e W h.rdr h.len h.pl
  have HD : Hid (Calls _ _ _ _ _) := CD
  clear h CD
  unfold donF
  by_cases hle : t.le = 0
  · rw [if_neg (by simpa using hle)]
    rw [hle] at c1
    go_enter Tryz.func23, Tryz.ntmps23
    go_wp2_with fail
    refine HD.out.mono ?_
    rintro e w2 ⟨rfl, n, rfl⟩
    go_wp2
    go_ret
    exact ⟨rfl, Below.drewN' (Below.refl _ _) _⟩
  · have hle' : ((t.le : Int) != 0) = true := by simpa using hle
    rw [if_pos hle]
    go_enter Tryz.func23, Tryz.ntmps23
    go_wp2
    go_ret
    exact ⟨rfl, Below.refl _ _⟩
end Go.Proofs.YtglhjgfaelfleaaGreat
