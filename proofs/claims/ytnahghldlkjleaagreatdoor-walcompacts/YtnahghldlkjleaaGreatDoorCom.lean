/-
  compact: the first segments of a wal go, and their entries with them.
-/
import Derived.Test.YtnahghldlkjleaaGreatDoorFor
import Derived.Test.YtnahghldlkjleaaGreatDoorFre
import Derived.Test.YtnahghldlkjleaaGreatDoorXS
namespace Go.Proofs.YtnahghldlkjleaaGreatDoor
open Go.RowKit
set_option linter.unusedVariables false

theorem flat_drop {α : Type} (R : RK α) (xs : List α) : ∀ n, (xs.drop n).flatMap R.enc = (xs.flatMap R.enc).drop (n * R.k) := by
  induction xs with
  | nil => intro n; simp
  | cons x q ih =>
    intro n
    cases n with
    | zero => simp
    | succ n =>
      have e : (R.enc x).drop (n * R.k + R.k) = [] := List.drop_eq_nil_of_le (by rw [R.len]; omega)
      rw [List.drop_succ_cons, ih n, List.flatMap_cons, Nat.add_mul, Nat.one_mul, List.drop_append, e, R.len, List.nil_append]
      congr 1; omega
/-- Where a row's things lie, from one of them on. -/
theorem Ro.src {α : Type} {R : RK α} {N : Nat} {w : World} {v : Value} {xs : List α} (h : Ro R N w v xs) (n : Nat) {g m cap : Nat} (hv : v = .slice (some ⟨g, 0, none⟩) m cap) : ∀ j u, ((xs.drop n).flatMap R.enc)[j]? = some u → w.cell? ((⟨g, n * R.k, none⟩ : Addr).add j) = some u := by
  intro j u hj
  rw [flat_drop, List.getElem?_drop] at hj
  rcases h.2 with ⟨e, h2⟩ | ⟨g', cap', cur, e, -, hb, h3, h4, h5, h6⟩
  · rw [hv] at e; cases e
  · rw [hv] at e
    cases e
    rw [← h6, List.getElem?_take] at hj
    split at hj
    · rw [Addr.add_lit]
      simp only [World.cell?, hb]
      simpa using hj
    · cases hj
/-- An append of things that lie somewhere, as a law of the walk. -/
theorem wpList_append_ro_from {α : Type} (R : RK α) {ops : Array Oper} {rest : List Oper} {o : Oper} {a : Act} {Q : Exit → Act → World → Prop} {w : World} (hgd : o.guard = none) (s y : Operand)
    (ho : o.op = .call { callee := .builtin .append, args := #[s, y], argTypes := #[R.S, R.S] })
    (N : Nat) (v : Value) (xs ys : List α) (hs : a.eval s = v) (hv : Ro R N w v xs) {ad : Addr} {m c : Nat} (hm : m = ys.length) (hy : a.eval y = .slice (some ad) m c) (hsrc : ∀ j u, (ys.flatMap R.enc)[j]? = some u → w.cell? (ad.add j) = some u) (hlen : xs.length + ys.length ≤ 1000000000) (hN : N ≤ w.heap.size)
    (h : ∀ v' w', Ro R N w' v' (xs ++ ys) → w.grownBy w' v.ownBlock → (v'.ownBlock = v.ownBlock ∨ v'.ownBlock = some w.heap.size) → wpList Tryz.prog ops Q rest (a.put o.dst v') w') :
    wpList Tryz.prog ops Q (o :: rest) a w := by
  subst hm
  refine wpList_plain hgd fun K hK => ?_
  obtain ⟨i0, hi, hz0, hz1, hz2⟩ := info_parts R.info
  obtain ⟨v', w', hr, h2, h3, _, h4⟩ := run_append_own_at (P := Tryz.prog) w N R.S o.type R.E i0 R.z R.k R.bytes R.und hi hz0 hz1 hz2 R.zc R.pos v xs.length (xs.flatMap R.enc) hv ad ys.length c (ys.flatMap R.enc) (flat_len R ys) hsrc (flat_one R ys) (by unfold maxLen; omega) (Nat.le_trans (Nat.mul_le_mul_left _ R.by64) (by omega)) hN
  unfold Oper.wp execOp
  simp only [ho, resolve, invoke, builtin, Sem.run_bind, Sem.run_pure, Result.andThen_ok, List.map_toArray, List.map_cons, List.map_nil, hs, hy, hr]
  refine hK _ _ (h v' w' ?_ h3 h4)
  unfold Ro
  simpa using h2

theorem freeL_le (J : LP) (hS : J.S.length = J.E.length) (ix : Int) : ∀ (l : List Sg) (i g : Nat), g ≤ J.E.length → (freeL J ix l i g).1 ≤ i + l.length ∧ i ≤ (freeL J ix l i g).1 ∧ (freeL J ix l i g).2 ≤ J.E.length
  | [], i, g, hg => ⟨Nat.le_refl _, Nat.le_refl _, hg⟩
  | s :: q, i, g, hg => by
    unfold freeL
    split
    · exact ⟨by simp, Nat.le_refl _, hg⟩
    · have hu : J.upTo s.n ≤ J.E.length := by rw [← hS]; exact List.countP_le_length
      obtain ⟨h1, h2, h3⟩ := freeL_le J hS ix q (i + 1) (J.upTo s.n) hu
      exact ⟨by simp only [List.length_cons]; omega, by omega, h3⟩
/-- The disk behind removed segments. -/
def remL (p : PD) (l : List Sg) : PD := l.foldl (fun p s => (doRemove p (nmL s.n)).2) p
theorem remL_snoc (p : PD) {sg : List Sg} {j : Nat} (hj : j < sg.length) : remL p (sg.take (j + 1)) = (doRemove (remL p (sg.take j)) (nmL (sg[j]).n)).2 := by
  unfold remL
  rw [take_snoc hj, List.foldl_append]; rfl

/-- A wal in some rounds. -/
structure CI (A : Nat → Prop) (W1 : World) (wb d b : Nat) (sv : Value) (X : WS) (wr : World) : Prop where
  vr : ∀ V, Out A W1 V → Vars V
  inn : ∀ i, A i → i < W1.heap.size
  q : ∃ S L k, WlO (grew A W1 wr) S L wr wb d b sv k X
  out : Out A W1 wr
theorem CI.start {A S L : Nat → Prop} {w : World} {wb d b : Nat} {sv : Value} {k : DS} {X : WS} (h : WlO A S L w wb d b sv k X) : CI A w wb d b sv X w :=
  ⟨h.vr, h.inn, ⟨S, L, k, h.wide (fun i hi => .inl hi) (fun i hi => h.inn i (grew_refl hi)) (fun V hV => h.vr V (hV.mono (fun i hi => grew_refl hi)))⟩, Out.refl _ _⟩
theorem CI.below {A : Nat → Prop} {W1 wr w' : World} {wb d b : Nat} {sv : Value} {X : WS} (h : CI A W1 wb d b sv X wr) (hB : Below wr.heap.size wr w') : CI A W1 wb d b sv X w' := by
  obtain ⟨hv, hi, ⟨S, L, k, q⟩, hO⟩ := h
  have hO2 : Out A W1 w' := hO.trans (Out.of_below (X := fun _ => False) hB) (fun _ h _ => h.elim)
  exact ⟨hv, hi, ⟨S, L, k, (q.below hB).wide (fun i hi => grew_mono hB.size hi) (grew_inn hi hO2.size) (vr_step hv hO2)⟩, hO2⟩
theorem CI.disk {A : Nat → Prop} {W1 wr : World} {wb d b : Nat} {sv : Value} {X : WS} (h : CI A W1 wb d b sv X wr) {nm : List UInt8} (hn : nm.length ≤ maxLen) (h0 : (doRemove X.p nm).1 = 0) :
    Calls Tryz.prog 97 #[.pointer (some ⟨d, 0, none⟩), .string ⟨nm.toArray⟩] wr fun e w' => e = .returned (.int .i64 0) ∧ CI A W1 wb d b sv { X with p := (doRemove X.p nm).2 } w' := by
  obtain ⟨hv, hi, ⟨S, L, k, q⟩, hO⟩ := h
  refine (remove_any q.hd nm hn).mono ?_
  rintro e w' ⟨k', rfl, hA, hp⟩
  rw [q.hp] at hp ⊢
  refine ⟨by rw [h0]; rfl, ?_⟩
  obtain ⟨q2, o2⟩ := q.diskO hA
  rw [hp] at q2
  rw [grew_grew hO.size o2.size] at q2
  exact ⟨hv, hi, ⟨_, _, _, q2⟩, hO.step o2⟩
theorem CI.th {A : Nat → Prop} {W1 wr : World} {wb d b : Nat} {sv : Value} {X : WS} (h : CI A W1 wb d b sv X wr) : Wth A W1 wr wb d X := by
  obtain ⟨hv, hi, ⟨S, L, k, q⟩, hO⟩ := h
  exact ⟨⟨S, L, b, sv, k, q⟩, hO⟩
theorem WlO.ledger0 {A S L : Nat → Prop} {w w' : World} {wb d b : Nat} {sv : Value} {k : DS} {X : WS} (h : WlO A S L w wb d b sv k X) {J' : LP} (hJ : JTh L w w' b J') : Wth A w w' wb d { X with J := J' } := by
  have e1 : (fun i => L i ∨ (fun _ : Nat => False) i) = L := by funext i; simp
  have e2 : (fun i => A i ∨ (fun _ : Nat => False) i) = A := by funext i; simp
  have := h.ledger (D := fun _ => False) (w' := w') (J' := J') (fun _ h => h.elim) (fun _ h => h.elim) (fun V hV => h.vr V (by rw [e2] at hV; exact hV)) (by rw [e1]; exact hJ)
  rw [e2] at this
  exact this

/-- The wal behind compact. -/
def WS.compact (X : WS) (p1 : PD) (r g : Nat) : WS := { X with p := remL p1 (X.sg.take r), sg := X.sg.drop r, J := X.J.forget g }

set_option maxRecDepth 100000 in
set_option maxHeartbeats 2000000 in
theorem compact_any {A : Nat → Prop} {w : World} {wb d : Nat} {X : WS} (h : Wl A w wb d X) (hn : X.sg ≠ []) (hfew : X.sg.length ≤ 1000000000) (hsn : ∀ s ∈ X.sg, s.n ≤ 99999999) (hs : X.J.S.Pairwise (· ≤ ·)) (hok : X.J.Ok) (ix : Int) (p1 : PD) (hx : doSync X.p (nmL X.last.n) = (0, p1))
    (r g : Nat) (hrg : freeL X.J ix X.sg.dropLast 0 0 = (r, g)) (hrm : ∀ i (hi : i < X.sg.length), i < r → (doRemove (remL p1 (X.sg.take i)) (nmL (X.sg[i]).n)).1 = 0) :
    Calls Tryz.prog 54 #[.pointer (some ⟨wb, 0, none⟩), .int .i64 ix] w fun e w' => e = .returned (.int .i64 (r : Int)) ∧ Wth A w w' wb d (X.compact p1 r g) := by
  obtain ⟨m, hm⟩ : ∃ m, X.sg.length = m + 1 := ⟨X.sg.length - 1, by have := List.length_pos_iff.2 hn; omega⟩
  obtain ⟨f1, -, f3⟩ := freeL_le X.J hok.len ix X.sg.dropLast 0 0 (Nat.zero_le _)
  rw [hrg, List.length_dropLast, hm] at f1
  rw [hrg] at f3
  simp only at f1 f3
  have hrm1 : r ≤ m := by omega
  have HSY : Hid (Calls Tryz.prog 49 #[.pointer (some ⟨wb, 0, none⟩)] w fun e w' => e = .returned (.tuple #[]) ∧ Hid (Wth A w w' wb d { X with p := p1 })) :=
    syncW_any h hn hfew (hsn _ (by
      have := @last_at X.sg m hm
      unfold WS.last; rw [this]; exact List.getElem_mem _)) p1 hx
  have HFR : Hid (∀ w1, Wl (grew A w w1) w1 wb d { X with p := p1 } → Calls Tryz.prog 96 #[.pointer (some ⟨wb, 0, none⟩), .int .i64 ix] w1 fun e w2 => e = .returned (.tuple #[.int .i64 (r : Nat), .int .i64 (g : Nat)]) ∧ ∃ b gs cap, w2.cell? ⟨wb, 2, none⟩ = some (.slice (some ⟨gs, 0, none⟩) (m + 1) cap) ∧ r ≤ cap ∧ ¬ cap = r ∧ Hid (Below w1.heap.size w1 w2) ∧ Hid (CI (grew A w w1) w2 wb d b (.slice (some ⟨gs, 0, none⟩) (m + 1) cap) { X with p := remL p1 (X.sg.take 0) } w2)) := fun w1 h1 => by
    have hf := free_any (X := { X with p := p1 }) h1 hn hfew hsn hs ix
    simp only [hrg] at hf
    refine hf.mono ?_
    rintro e w2 ⟨rfl, hB⟩
    refine ⟨rfl, ?_⟩
    obtain ⟨S, L, b, sv, k, q⟩ := h1.below hB
    obtain ⟨gs, cap, hsv, -⟩ := q.hs.at0 (by show 0 < X.sg.length; omega)
    obtain ⟨_, cap', e2, hc1, -⟩ := q.hs.shape
    change sv = .slice (some ⟨gs, 0, none⟩) X.sg.length cap at hsv
    change sv = .slice _ X.sg.length cap' at e2
    change X.sg.length ≤ cap' at hc1
    rw [hsv] at e2
    simp only [Value.slice.injEq, true_and] at e2
    rw [hm] at hsv
    subst hsv
    refine ⟨b, gs, cap, (cells5w q.hw).1.2.2.1, by omega, by omega, hB, ?_⟩
    exact CI.start q
  have HCC : Hid (∀ A1 w2 wr b gs cap q, CI A1 w2 wb d b (.slice (some ⟨gs, 0, none⟩) (m + 1) cap) { X with p := q } wr → ∀ i (hi : i < X.sg.length), wr.cell? ⟨wb, 0, none⟩ = some (.pointer (some ⟨d, 0, none⟩)) ∧ wr.cell? ⟨wb, 2, none⟩ = some (.slice (some ⟨gs, 0, none⟩) (m + 1) cap) ∧ wr.cell? ⟨gs, i * 2, none⟩ = some (.int .i64 (((X.sg[i]).n : Nat) : Int)) ∧ wr.cell? ⟨gs, i * 2 + 1, none⟩ = some (.int .i64 (((X.sg[i]).b : Nat) : Int))) := fun A1 w2 wr b gs cap q hI i hi => by
    obtain ⟨-, -, ⟨S, L, k, q⟩, -⟩ := hI
    obtain ⟨g', cap', he, -, c0, c1⟩ := segCell q.hs (j := i) hi
    have hgs : gs = g' := by simp at he; exact he.1
    subst hgs
    exact ⟨(cells5w q.hw).1.1, (cells5w q.hw).1.2.2.1, c0, c1⟩
  have HRM : Hid (∀ A1 w2 wr b sv i (hi : i < X.sg.length), i < r → CI A1 w2 wb d b sv { X with p := remL p1 (X.sg.take i) } wr → ∀ W, Below wr.heap.size wr W → Calls Tryz.prog 97 #[.pointer (some ⟨d, 0, none⟩), .string ⟨(nmL (X.sg[i]).n).toArray⟩] W fun e w' => e = .returned (.int .i64 0) ∧ Hid (CI A1 w2 wb d b sv { X with p := remL p1 (X.sg.take (i + 1)) } w')) := fun A1 w2 wr b sv i hi hir hI W hB => by
    refine ((hI.below hB).disk (nm := nmL (X.sg[i]).n) (by rw [nmL_len]; unfold maxLen; omega) (hrm i hi hir)).mono ?_
    rintro e w' ⟨rfl, h9⟩
    refine ⟨rfl, ?_⟩
    rw [remL_snoc p1 hi]
    exact h9
  have HNM : Hid (∀ A1 w2 wr b sv q i (hi : i < X.sg.length), CI A1 w2 wb d b sv { X with p := q } wr → ∀ W, Below wr.heap.size wr W → Calls Tryz.prog 78 #[.agg #[.int .i64 (((X.sg[i]).n : Nat) : Int), .int .i64 (((X.sg[i]).b : Nat) : Int)]] W fun e w' => e = .returned (.string ⟨(nmL (X.sg[i]).n).toArray⟩) ∧ Below W.heap.size W w') := fun A1 w2 wr b sv q i hi hI W hB => by
    have h9 := hI.below hB
    exact segName_any _ _ (hsn _ (List.getElem_mem hi)) W (h9.vr W h9.out)
  have HAP : Hid (∀ A1 w2 wr b gs cap, CI A1 w2 wb d b (.slice (some ⟨gs, 0, none⟩) (m + 1) cap) { X with p := remL p1 (X.sg.take r) } wr → (∀ j u, ((X.sg.drop r).flatMap RSg.enc)[j]? = some u → wr.cell? ((⟨gs, r * 2, none⟩ : Addr).add j) = some u) ∧ ∀ v' w5, Ro RSg wr.heap.size w5 v' (X.sg.drop r) → wr.grownBy w5 none →
      w5.cell? ⟨wb, 2, none⟩ = some (.slice (some ⟨gs, 0, none⟩) (m + 1) cap) ∧ w5.frozen? ⟨wb, 2, none⟩ = false ∧ ∃ b3, (w5.setCell ⟨wb, 2, none⟩ v').cell? ⟨wb, 3, none⟩ = some (.pointer (some ⟨b3, 0, none⟩)) ∧ Hid (Calls Tryz.prog 98 #[.pointer (some ⟨b3, 0, none⟩), .int .i64 (g : Int)] (w5.setCell ⟨wb, 2, none⟩ v') fun e w' => e = .returned (.tuple #[]) ∧ Hid (Wth A1 w2 w' wb d (X.compact p1 r g)))) := fun A1 w2 wr b gs cap hI => by
    have hth := hI.th
    obtain ⟨hv, hin, ⟨S, L, k, q⟩, hO⟩ := hI
    refine ⟨fun j u hj => q.hs.src r rfl j u hj, ?_⟩
    intro v' w5 hR hg
    have hB5 : Below wr.heap.size wr w5 := ⟨hg.os, hg.tape, hg.output, hg.size, fun i hi => hg.block i hi (by simp)⟩
    have h5 := q.below hB5
    have hw5 := h5.hw
    obtain ⟨⟨-, -, c2, -, -⟩, cf⟩ := cells5w hw5
    have hset : (w5.setCell ⟨wb, 2, none⟩ v').heap[wb]? = some (.cells #[.pointer (some ⟨d, 0, none⟩), .int .i64 (X.full : Int), v', .pointer (some ⟨b, 0, none⟩), .bool X.br] 114 (0, 0)) := by
      rw [heap_set hw5 2 v']; rfl
    have wlt := (Array.getElem?_eq_some_iff.1 q.hw).1
    have hR2 : Ro RSg wr.heap.size (w5.setCell ⟨wb, 2, none⟩ v') v' (X.sg.drop r) := hR.out (X := fun i => i = wb) (Out.set rfl) (fun g' hg' e => by have := (hR.lt hg').1; omega)
    have hT := q.segs (w' := w5.setCell ⟨wb, 2, none⟩ v') (sg' := X.sg.drop r) (br' := X.br) ((Out.of_below (X := fun i => i = wb ∨ (Value.slice (some ⟨gs, 0, none⟩) (m + 1) cap).ownBlock = some i) hB5).put (.inl rfl)) hset (hR2.base (Nat.zero_le _)) (fun g' hg' => .inr (hR.lt hg').1)
    refine ⟨c2, cf 2, ?_⟩
    have hT2 := hth.trans hT
    obtain ⟨S3, L3, b3, sv3, k3, q3⟩ := hT2.q
    refine ⟨b3, (cells5w q3.hw).1.2.2.2.1, ?_⟩
    refine (forget_any q3.hj g f3).mono ?_
    rintro e w' ⟨rfl, hJ⟩
    exact ⟨rfl, hT2.trans (q3.ledger0 hJ)⟩
  have HM : Hid (∀ W, Calls Tryz.prog 92 #[.int .i64 0] W fun e w' => e = .returned (.tuple #[]) ∧ w' = W) := fun W => must_ok W
  have HFIN : Hid (∀ w1 w2 w', Wth A w w1 wb d { X with p := p1 } → Below w1.heap.size w1 w2 → Wth (grew A w w1) w2 w' wb d (X.compact p1 r g) → Wth A w w' wb d (X.compact p1 r g)) := fun w1 w2 w' h1 hB h2 => h1.trans (Wth.of_below h1.q hB h2)
  have hm9 : m ≤ 1000000000 := by omega
  have HML : Hid (X.sg.length = m + 1) := hm
  have HDL : Hid ((X.sg.drop r).length = m + 1 - r) := by show _ = _; rw [List.length_drop, hm]
  have HDL2 : Hid (([] : List Sg).length + (X.sg.drop r).length ≤ 1000000000) := by show _ ≤ _; rw [List.length_drop]; simp; omega
  have hrm2 : r ≤ m + 1 := by omega
  have hmr : m + 1 - r ≤ 1000000000 := by omega
  clear h hn hfew hsn hs hok hx hrg hrm f1 f3 hm
  go_enter Tryz.func54, Tryz.ntmps54
  go_wp2_with (first
    | (go_at_call 49; refine HSY.out.mono ?_; rintro e w1 ⟨rfl, HT1⟩)
    | (go_at_call 96; refine Calls.mono (HFR.out w1 HT1.out.q) ?_; rintro e w2 ⟨rfl, b, gs, cap, c2, hrc, hcr, HB2, HI2⟩)
    | fail)
  obtain ⟨A1, hA1⟩ : ∃ A1, grew A w w1 = A1 := ⟨_, rfl⟩
  have HA1 : Hid (grew A w w1 = A1) := hA1
  rw [hA1] at HI2
  clear hA1 c2 HSY HFR
  go_loopw [24] (fun v24 wr => ∃ i : Nat, v24 = .int .i64 (i : Int) ∧ i ≤ r ∧ Hid (CI A1 w2 wb d b (.slice (some ⟨gs, 0, none⟩) (m + 1) cap) { X with p := remL p1 (X.sg.take i) } wr)) (fun i _ => r - (intOf i).toNat)
  case atStart => exact ⟨0, rfl, Nat.zero_le _, HI2.out⟩
  case round =>
    obtain ⟨i, rfl, hi, HI⟩ := hrel
    by_cases hlt : i < r
    · have hil : i < X.sg.length := by have := HML.out; omega
      obtain ⟨c0, -, s0, s1⟩ := HCC.out _ _ _ _ _ _ _ HI.out i hil
      have HC : Hid (∀ V, Below wr.heap.size wr V → V.cell? ⟨wb, 0, none⟩ = some (.pointer (some ⟨d, 0, none⟩))) := fun V hB => (hB.cell (p := ⟨wb, 0, none⟩) (World.block_lt_of_cell? _ _ c0)).trans c0
      have HR1 := HRM.out _ _ _ _ _ i hil hlt HI.out
      have HN1 := HNM.out _ _ _ _ _ _ i hil HI.out
      obtain ⟨sn, hsn⟩ : ∃ sn, (X.sg[i]).n = sn := ⟨_, rfl⟩
      obtain ⟨sb, hsb⟩ : ∃ sb, (X.sg[i]).b = sb := ⟨_, rfl⟩
      rw [hsn] at s0 HR1 HN1
      rw [hsb] at s1 HN1
      have HRX : Hid _ := HR1
      have HNX : Hid _ := HN1
      obtain ⟨W1, hW1⟩ : ∃ W1, wr.alloc (.cells #[.int .i64 (sn : Int), .int .i64 (sb : Int)] 135) = W1 := ⟨_, rfl⟩
      have HW1 : Hid (_ = W1) := hW1
      have hBW : Below wr.heap.size wr W1 := by rw [← hW1]; exact (Below.refl _ wr).alloc (Nat.le_refl _) _
      have HBW : Hid (Below wr.heap.size wr W1) := hBW
      have hxe : W1.heap[wr.heap.size]? = some (.cells #[.int .i64 (sn : Int), .int .i64 (sb : Int)] 135 (0, 0)) := by rw [← hW1]; exact heap_alloc_new wr _
      have HX : Hid (∀ V, Below W1.heap.size W1 V → V.cell? ⟨wb, 0, none⟩ = some (.pointer (some ⟨d, 0, none⟩)) ∧ V.cell? ⟨wr.heap.size, 0, none⟩ = some (.int .i64 (sn : Int)) ∧ V.cell? ⟨wr.heap.size, 1, none⟩ = some (.int .i64 (sb : Int))) := fun V hB => by
        obtain ⟨⟨b0, b1⟩, -⟩ := cells2' (bel_heap hB hxe)
        exact ⟨HC.out V (hBW.trans (hB.mono hBW.size)), b0, b1⟩
      have HRY : Hid (∀ W, Below W1.heap.size W1 W → Calls Tryz.prog 97 #[.pointer (some ⟨d, 0, none⟩), .string ⟨(nmL sn).toArray⟩] W fun e w' => e = .returned (.int .i64 0) ∧ Hid (CI A1 w2 wb d b (.slice (some ⟨gs, 0, none⟩) (m + 1) cap) { X with p := remL p1 (X.sg.take (i + 1)) } w')) := fun W hB => HRX.out W (HBW.out.trans (hB.mono HBW.out.size))
      have HNY : Hid (∀ W, Below W1.heap.size W1 W → Calls Tryz.prog 78 #[.agg #[.int .i64 (sn : Int), .int .i64 (sb : Int)]] W fun e w' => e = .returned (.string ⟨(nmL sn).toArray⟩) ∧ Below W1.heap.size W1 w') := fun W hB =>
        (HNX.out W (HBW.out.trans (hB.mono HBW.out.size))).mono fun e w' ⟨he, h2⟩ => ⟨he, hB.trans (h2.mono hB.size)⟩
      obtain ⟨x0, y0, y1⟩ := HX.out W1 (Below.refl _ _)
      clear HR1 HN1 HRX HNX HC HCC HRM HNM HAP HFIN hBW hxe hsn hsb hil
      go_upto_region 6 with fail
      try rw [HW1.out]
      clear s0 s1 hW1 HW1 c0
      generalize nmL sn = nm at *
      go_region_law (first
        | ((try go_simp); (try go_at_call 78); refine Calls.mono (HNY.out _ (by (repeat (first | (with_reducible refine bel_alloc' ?_ _) | (with_reducible refine bel_drew' ?_) | (with_reducible refine bel_drewN' ?_ _))); exact Below.refl _ _)) ?_; rintro e w4 ⟨rfl, hB4⟩; obtain ⟨d0, d1, d2⟩ := HX.out w4 hB4)
        | ((try go_simp); (try go_at_call 97); refine Calls.mono (HRY.out _ (by (repeat (first | (with_reducible refine bel_alloc' ?_ _) | (with_reducible refine bel_drew' ?_) | (with_reducible refine bel_drewN' ?_ _))); first | exact Below.refl _ _ | assumption)) ?_; rintro e w5 ⟨rfl, HI5⟩)
        | (go_simp; go_at_call 92; refine (HM.out _).mono ?_; rintro e w6 ⟨rfl, rfl⟩))
      all_goals
        (try go_wp2)
        exact ⟨⟨i + 1, by go_num, by omega, HI5.out⟩, by simp [intOf]; omega⟩
    · have hir : i = r := by omega
      subst hir
      obtain ⟨HSRC, HAPP⟩ := HAP.out _ _ _ _ _ _ HI.out
      have hil : 0 < X.sg.length := by have := HML.out; omega
      obtain ⟨c0, c2, -, -⟩ := HCC.out _ _ _ _ _ _ _ HI.out 0 hil
      have HSR : Hid _ := HSRC
      have HSH : Hid (∀ v' w5, Ro RSg wr.heap.size w5 v' (X.sg.drop i) → ∃ a c, v' = .slice a (m + 1 - i) c) := fun v' w5 hr => by
        obtain ⟨a, c, h1, -, -⟩ := hr.shape
        rw [HDL.out] at h1
        exact ⟨a, c, h1⟩
      have HAX : Hid _ := HAPP
      clear HSRC HAPP HAP HCC HRM HNM HI hil
      go_wp2_with (first
        | (at_builtin; refine wpList_append_ro_from RSg rfl _ _ rfl wr.heap.size (.slice none 0 0) [] (X.sg.drop i) rfl (Ro.nil _ _ _) (m := m + 1 - i) HDL.out.symm rfl HSR.out HDL2.out (Nat.le_refl _) ?_; intro v' w5 q1 q2 q3; obtain ⟨va', vc', rfl⟩ := HSH.out v' w5 q1; obtain ⟨k2, kf2, b3, k3, HFG⟩ := HAX.out _ w5 q1 q2; clear q1 q2 q3)
        | (go_at_call 98; refine Calls.mono HFG.out ?_; rintro e w6 ⟨rfl, HT6⟩)
        | fail)
      go_ret
      exact ⟨rfl, HFIN.out w1 w2 w6 HT1.out HB2.out (by rw [HA1.out]; exact HT6.out)⟩
end Go.Proofs.YtnahghldlkjleaaGreatDoor
