/-
  Keep on plain disks; disks that have room, and no Temp.
-/
import Derived.Test.YtadajbdmlmickaaGreatDoorPb
namespace Go.Proofs.YtadajbdmlmickaaGreatDoor
open Go.RowKit
set_option linter.unusedVariables false

/-- The names that go where n snapshots stay. -/
def spareL (p : PD) (n : Nat) : List (List UInt8) := (if (lookP tmpL p.fs).isSome then [tmpL] else []) ++ ((listP p).take ((listP p).length - n)).map nmL
def remL : PD → List (List UInt8) → Nat × PD
  | p, [] => (0, p)
  | p, x :: r => thenP (doRemove p x) (fun q => remL q r)
theorem remL_app (l m : List (List UInt8)) : ∀ p, remL p (l ++ m) = thenP (remL p l) (fun q => remL q m) := by
  induction l with
  | nil => intro p; simp [remL, thenP]
  | cons x r ih =>
    intro p
    simp only [List.cons_append, remL]
    unfold thenP
    by_cases h : (doRemove p x).1 = 0
    · rw [if_pos h, if_pos h]; show remL (doRemove p x).2 (r ++ m) = _; rw [ih]; rfl
    · rw [if_neg h, if_neg h, if_neg h]
theorem remL_snoc (p : PD) (l : List (List UInt8)) (x : List UInt8) : remL p (l ++ [x]) = thenP (remL p l) (fun q => doRemove q x) := by
  rw [remL_app]
  unfold thenP
  split
  · show (if (doRemove (remL p l).2 x).1 = 0 then (0, (doRemove (remL p l).2 x).2) else doRemove (remL p l).2 x) = _
    split
    · rename_i h; rw [← h]
    · rfl
  · rfl
theorem remL_stop (p : PD) (l : List (List UInt8)) (k : Nat) (h : (remL p (l.take k)).1 ≠ 0) : remL p l = remL p (l.take k) := by
  have := remL_app (l.take k) (l.drop k) p
  rw [List.take_append_drop] at this
  rw [this]
  unfold thenP
  rw [if_neg h]

/-! Disks that have room, nothing armed, no Temp. -/
structure Cln (p : PD) (k : Nat) : Prop where
  arm : p.arm = 0
  dn : p.dn = false
  tmp : lookP tmpL p.fs = none
  len : p.fs.length ≤ k
  dat : ∀ f ∈ p.fs, f.dat.length ≤ 524400
theorem Cln.fell {p : PD} {k : Nat} (h : Cln p k) : p.fell = false := by unfold PD.fell; rw [h.arm]; rfl
theorem fail_eq {p : PD} (h : p.arm = 0) : p.fail = p := by unfold PD.fail; rw [if_pos h]
theorem Cln.mono {p : PD} {k m : Nat} (h : Cln p k) (hk : k ≤ m) : Cln p m := ⟨h.arm, h.dn, h.tmp, Nat.le_trans h.len hk, h.dat⟩
theorem ins_len (f : PF) : ∀ l, (insP f l).length = l.length + 1
  | [] => rfl
  | y :: q => by
    unfold insP
    split
    · rfl
    · rw [List.length_cons, ins_len f q]; rfl
theorem mem_ins {f g : PF} : ∀ {l}, g ∈ insP f l → g = f ∨ g ∈ l
  | [], h => by simpa [insP] using h
  | y :: q, h => by
    unfold insP at h
    split at h
    · simpa using h
    · rcases List.mem_cons.1 h with e | e
      · exact .inr (by rw [e]; exact List.mem_cons_self ..)
      · rcases mem_ins e with e | e
        · exact .inl e
        · exact .inr (List.mem_cons_of_mem _ e)
theorem del_sub {x : List UInt8} {fs : List PF} {g : PF} (h : g ∈ delP x fs) : g ∈ fs := (List.mem_filter.1 h).1
theorem del_le (x : List UInt8) (fs : List PF) : (delP x fs).length ≤ fs.length := List.length_filter_le _ _
theorem del_lt {x : List UInt8} {fs : List PF} (h : (lookP x fs).isSome = true) : (delP x fs).length < fs.length := by
  obtain ⟨f, hf⟩ := Option.isSome_iff_exists.1 h
  obtain ⟨hm, hn⟩ := lookP_nm hf
  refine Nat.lt_of_le_of_ne (del_le _ _) (fun e => ?_)
  have := List.length_filter_eq_length_iff.1 e f hm
  simp [hn] at this
theorem sum_le (B : Nat) : ∀ (fs : List PF), (∀ f ∈ fs, f.dat.length ≤ B) → sumP fs ≤ fs.length * B
  | [], _ => by simp [sumP]
  | f :: r, h => by
    have h1 := sum_le B r (fun g hg => h g (List.mem_cons_of_mem _ hg))
    have h2 := h f (List.mem_cons_self ..)
    have h3 : sumP (f :: r) = f.dat.length + sumP r := by simp [sumP]
    rw [h3, List.length_cons, Nat.add_mul, Nat.one_mul]
    omega
theorem isNm_tmp : isNm tmpL = true := by decide
theorem isNm_nm (n : Nat) : isNm (nmL n) = true := by
  unfold isNm
  rw [nmL_len]
  have h : (nmL n).all (fun x => ofNm x.toNat) = true := by
    unfold nmL
    rw [List.all_append]
    have h1 : (low 19 n).all (fun x => ofNm x.toNat) = true := by
      rw [List.all_eq_true]
      intro c hc
      have := List.all_eq_true.1 (low_dg 19 n) c hc
      unfold isDg at this
      simp only [Bool.and_eq_true, decide_eq_true_eq] at this
      unfold ofNm
      simp
      omega
    rw [h1]
    decide
  rw [h]
  rfl
theorem frL_len {i t : Int} {m : List UInt8} (h : m.length ≤ 524288) : (frL i t m).length ≤ 524326 := by
  have := Cd.txSnap_len i t m
  unfold frL
  rw [Fr.frameB_len]
  omega

theorem Cln.save {p : PD} {k : Nat} (h : Cln p k) (hk : k ≤ 20) (i t : Int) (m : List UInt8) : Cln (saveP p i t m).2 (k + 1) := by
  unfold saveP
  by_cases hE : frmE i t m.length = 0
  · rw [if_neg (by simpa using hE)]
    obtain ⟨-, -, -, -, -, hm⟩ := snapD_fr hE
    have hbl := frL_len (i := i) (t := t) hm
    generalize frL i t m = b at hbl
    generalize i.toNat = n
    clear hE hm
    have hfail : p.fail = p := fail_eq h.arm
    have hfell := h.fell
    unfold saveS
    rw [if_neg (by rw [h.tmp]; simp)]
    -- create
    have e2 : doCreate p tmpL = (0, { p with fs := insP ⟨tmpL, [], 0, false⟩ (delP tmpL p.fs) }) := by
      unfold doCreate
      rw [if_neg (by rw [h.dn]; simp), if_neg (by rw [isNm_tmp]; simp), if_neg (by rw [h.tmp]; simp), if_neg (by have := h.len; omega), hfell, if_neg (by simp), hfail]
    obtain ⟨p2, hp2⟩ : ∃ p2 : PD, p2 = { p with fs := insP ⟨tmpL, [], 0, false⟩ (delP tmpL p.fs) } := ⟨_, rfl⟩
    rw [← hp2] at e2
    have a2 : p2.arm = 0 := by rw [hp2]; exact h.arm
    have d2 : p2.dn = false := by rw [hp2]; exact h.dn
    have l2 : p2.fs.length ≤ k + 1 := by rw [hp2]; show (insP _ _).length ≤ _; rw [ins_len]; have := del_le tmpL p.fs; have := h.len; omega
    have s2 : lookP tmpL p2.fs = some ⟨tmpL, [], 0, false⟩ := by rw [hp2]; show lookP tmpL (insP _ _) = _; rw [lookP_ins (fun g hg => mem_del hg), if_pos rfl]
    have m2 : ∀ f ∈ p2.fs, f.dat.length ≤ 524400 ∧ (f.nm = tmpL → f.dat = []) := by
      rw [hp2]
      intro f hf
      rcases mem_ins hf with e | e
      · subst e; exact ⟨by simp, fun _ => rfl⟩
      · exact ⟨h.dat f (del_sub e), fun e' => absurd e' (mem_del e)⟩
    clear hp2
    -- append
    have e3 : doAppend p2 tmpL b = (0, { p2 with fs := p2.fs.map (appP tmpL b) }) := by
      unfold doAppend
      have hs := sum_le 524400 p2.fs (fun f hf => (m2 f hf).1)
      have : p2.fs.length * 524400 ≤ 21 * 524400 := Nat.mul_le_mul_right _ (by omega)
      rw [if_neg (by rw [d2]; simp), if_neg (by rw [s2]; simp), if_neg (by omega), show p2.fell = false by unfold PD.fell; rw [a2]; rfl, if_neg (by simp), fail_eq a2]
    obtain ⟨p3, hp3⟩ : ∃ p3 : PD, p3 = { p2 with fs := p2.fs.map (appP tmpL b) } := ⟨_, rfl⟩
    rw [← hp3] at e3
    have a3 : p3.arm = 0 := by rw [hp3]; exact a2
    have d3 : p3.dn = false := by rw [hp3]; exact d2
    have l3 : p3.fs.length ≤ k + 1 := by rw [hp3]; show (p2.fs.map _).length ≤ _; rw [List.length_map]; exact l2
    have s3 : (lookP tmpL p3.fs).isSome = true := by rw [hp3]; show (lookP tmpL (p2.fs.map _)).isSome = _; rw [lookP_map (fun f => by unfold appP; split <;> rfl), s2]; rfl
    have m3 : ∀ f ∈ p3.fs, f.dat.length ≤ 524400 := by
      rw [hp3]
      intro f hf
      obtain ⟨g, hg, rfl⟩ := List.mem_map.1 (show f ∈ p2.fs.map _ from hf)
      have := m2 g hg
      unfold appP
      split
      · rename_i hc
        have hc' : g.nm = tmpL := by simpa using hc
        show (g.dat ++ b).length ≤ _
        rw [this.2 hc']
        simp; omega
      · exact this.1
    clear hp3
    -- sync
    have e4 : doSync p3 tmpL = (0, { p3 with fs := p3.fs.map (syncP tmpL) }) := by
      unfold doSync
      rw [if_neg (by rw [d3]; simp), if_neg (by rw [s3]; simp), show p3.fell = false by unfold PD.fell; rw [a3]; rfl, if_neg (by simp), fail_eq a3]
    obtain ⟨p4, hp4⟩ : ∃ p4 : PD, p4 = { p3 with fs := p3.fs.map (syncP tmpL) } := ⟨_, rfl⟩
    rw [← hp4] at e4
    have a4 : p4.arm = 0 := by rw [hp4]; exact a3
    have d4 : p4.dn = false := by rw [hp4]; exact d3
    have l4 : p4.fs.length ≤ k + 1 := by rw [hp4]; show (p3.fs.map _).length ≤ _; rw [List.length_map]; exact l3
    have s4 : (lookP tmpL p4.fs).isSome = true := by rw [hp4]; show (lookP tmpL (p3.fs.map _)).isSome = _; rw [lookP_map (fun f => by unfold syncP; split <;> rfl), Option.isSome_map]; exact s3
    have m4 : ∀ f ∈ p4.fs, f.dat.length ≤ 524400 := by
      rw [hp4]
      intro f hf
      obtain ⟨g, hg, rfl⟩ := List.mem_map.1 (show f ∈ p3.fs.map _ from hf)
      have := m3 g hg
      unfold syncP
      split <;> exact this
    clear hp4
    -- rename
    obtain ⟨f4, hf4⟩ := Option.isSome_iff_exists.1 s4
    have hnt : nmL n ≠ tmpL := nm_tmp n
    have e5 : doRename p4 tmpL (nmL n) = (0, { p4 with fs := insP { f4 with nm := nmL n } (delP (nmL n) (delP tmpL (delP (nmL n) p4.fs))) }) := by
      unfold doRename
      rw [if_neg (by rw [d4]; simp), hf4]
      simp only
      rw [if_neg (by rw [isNm_nm]; simp), show p4.fell = false by unfold PD.fell; rw [a4]; rfl, if_neg (by simp), if_neg (fun e => hnt e.symm), fail_eq a4]
    have t1 : thenP (0, p) (fun q => doCreate q tmpL) = (0, p2) := by unfold thenP; rw [if_pos rfl]; exact e2
    have t2 : thenP (0, p2) (fun q => doAppend q tmpL b) = (0, p3) := by unfold thenP; rw [if_pos rfl]; exact e3
    have t3 : thenP (0, p3) (fun q => doSync q tmpL) = (0, p4) := by unfold thenP; rw [if_pos rfl]; exact e4
    rw [t1, t2, t3]
    have t4 : thenP (0, p4) (fun q => doRename q tmpL (nmL n)) = doRename p4 tmpL (nmL n) := by unfold thenP; rw [if_pos rfl]
    rw [t4, e5]
    have q1 : (delP tmpL (delP (nmL n) p4.fs)).length < (delP (nmL n) p4.fs).length := del_lt (by rw [lookP_del, if_neg (fun e => hnt e.symm)]; exact s4)
    have q2 := del_le (nmL n) p4.fs
    have q3 := del_le (nmL n) (delP tmpL (delP (nmL n) p4.fs))
    refine ⟨a4, d4, ?_, ?_, fun f hf => ?_⟩
    · show lookP tmpL (insP _ _) = none
      rw [lookP_ins (fun g hg => mem_del hg), if_neg hnt, lookP_del, if_neg (fun e => hnt e.symm), lookP_del, if_pos rfl]
    · show (insP _ _).length ≤ _
      rw [ins_len]; omega
    · rcases mem_ins (show f ∈ insP _ _ from hf) with e | e
      · rw [e]; exact m4 f4 (lookP_nm hf4).1
      · exact m4 f (del_sub (del_sub (del_sub e)))
  · rw [if_pos hE]
    exact h.mono (by omega)
theorem Cln.cut {p : PD} {k : Nat} (h : Cln p k) (nm : List UInt8) (n : Int) : Cln (doCut p nm n).2 k := by
  unfold doCut
  rw [h.dn, if_neg (by simp)]
  cases hl : lookP nm p.fs with
  | none => exact h
  | some f =>
    simp only
    split
    · exact h
    · rw [h.fell, if_neg (by simp), fail_eq h.arm]
      refine ⟨h.arm, h.dn, ?_, ?_, fun g hg => ?_⟩
      · show lookP tmpL (p.fs.map _) = none
        rw [lookP_map (fun f => by unfold cutP; split <;> rfl), h.tmp]; rfl
      · show (p.fs.map _).length ≤ _
        rw [List.length_map]; exact h.len
      · obtain ⟨f', hf', rfl⟩ := List.mem_map.1 (show g ∈ p.fs.map _ from hg)
        have := h.dat f' hf'
        unfold cutP
        split
        · show (f'.dat.take _).length ≤ _
          rw [List.length_take]; omega
        · exact this
theorem Cln.nil (k : Nat) : Cln ⟨[], 0, false⟩ k := ⟨rfl, rfl, rfl, by simp, by simp⟩

/-! Keep. -/
theorem rem_all : ∀ (l : List (List UInt8)) (p : PD), p.arm = 0 → p.dn = false → l.Nodup → (∀ x ∈ l, (lookP x p.fs).isSome = true) → (remL p l).1 = 0 ∧ ∀ nm, lookP nm (remL p l).2.fs = if nm ∈ l then none else lookP nm p.fs
  | [], p, _, _, _, _ => ⟨rfl, fun nm => by simp [remL]⟩
  | x :: r, p, ha, hd, hn, hx => by
    obtain ⟨n1, n2⟩ := List.nodup_cons.1 hn
    have e1 : doRemove p x = (0, { p with fs := delP x p.fs }) := by
      unfold doRemove
      rw [if_neg (by rw [hd]; simp), if_neg (by rw [hx x (List.mem_cons_self ..)]; simp), show p.fell = false by unfold PD.fell; rw [ha]; rfl, if_neg (by simp), fail_eq ha]
    have e2 : remL p (x :: r) = remL { p with fs := delP x p.fs } r := by
      show thenP (doRemove p x) _ = _
      rw [e1]; unfold thenP; rw [if_pos rfl]
    rw [e2]
    obtain ⟨h1, h2⟩ := rem_all r { p with fs := delP x p.fs } ha hd n2 (fun y hy => by
      show (lookP y (delP x p.fs)).isSome = true
      rw [lookP_del, if_neg (fun e => n1 (by rw [← e]; exact hy))]
      exact hx y (List.mem_cons_of_mem _ hy))
    refine ⟨h1, fun nm => ?_⟩
    rw [h2 nm]
    show (if nm ∈ r then none else lookP nm (delP x p.fs)) = _
    rw [lookP_del]
    by_cases hm : nm ∈ r
    · rw [if_pos hm, if_pos (List.mem_cons_of_mem _ hm)]
    · rw [if_neg hm]
      by_cases he : nm = x
      · rw [if_pos he, if_pos (by rw [he]; exact List.mem_cons_self ..)]
      · rw [if_neg he, if_neg (by simp [he, hm])]
/-- What Load tells, by place. -/
theorem load_cases (p : PD) : loadS p = ((0, 0, []), 0, 8) ∨ ∃ s k, k < (listP p).length ∧ loadS p = (s, k, 0) ∧ s.1 = (listP p).getD ((listP p).length - 1 - k) 0 ∧ wholeP p ((listP p).reverse.getD k 0) = some s ∧ ∀ j, j < k → wholeP p ((listP p).reverse.getD j 0) = none := by
  have main : ∀ m, m ≤ (listP p).length → (∀ j, j < m → wholeP p ((listP p).reverse.getD j 0) = none) ∨ ∃ s k, k < m ∧ wholeP p ((listP p).reverse.getD k 0) = some s ∧ ∀ j, j < k → wholeP p ((listP p).reverse.getD j 0) = none := by
    intro m
    induction m with
    | zero => intro _; exact .inl (fun j hj => by omega)
    | succ m ih =>
      intro hm
      rcases ih (by omega) with h | ⟨s, k, h1, h2, h3⟩
      · cases hw : wholeP p ((listP p).reverse.getD m 0) with
        | none => exact .inl (fun j hj => by by_cases e : j = m; · rw [e]; exact hw
                                             · exact h j (by omega))
        | some s => exact .inr ⟨s, m, by omega, hw, h⟩
      · exact .inr ⟨s, k, by omega, h2, h3⟩
  rcases main _ (Nat.le_refl _) with h | ⟨s, k, h1, h2, h3⟩
  · left
    exact loadL_none p _ (fun j hj => h j (by simpa using hj))
  · right
    refine ⟨s, k, h1, ?_, ?_, h2, h3⟩
    · have := loadL_step p (listP p).reverse k (by simpa using h1) h3
      rw [h2] at this
      exact this
    · rw [whole_vw] at h2
      obtain ⟨x, hx1, hx2⟩ := Option.bind_eq_some_iff.1 h2
      rw [snapD_ix hx2, List.getD_eq_getElem?_getD, List.getD_eq_getElem?_getD, List.getElem?_reverse h1]
theorem nm_inj {a b : Nat} (ha : a ≤ 4611686018427387904) (hb : b ≤ 4611686018427387904) (h : nmL a = nmL b) : a = b := by
  rw [← idx_nm ha, h, idx_nm hb]
/-- Behind Keep. -/
theorem keep_plain {p : PD} {k n : Nat} (hp : Rise p) (hc : Cln p k) (hq : Rise (remL p (spareL p n)).2) :
    (spareL p n).length = (listP p).length - n ∧ (remL p (spareL p n)).1 = 0 ∧ listP (remL p (spareL p n)).2 = (listP p).drop ((listP p).length - n) ∧ ∀ s j, loadS p = (s, j, 0) → j < n → loadS (remL p (spareL p n)).2 = (s, j, 0) := by
  have hsp : spareL p n = ((listP p).take ((listP p).length - n)).map nmL := by unfold spareL; rw [hc.tmp]; rfl
  have hr := list_rise hp
  have hmx : ∀ x ∈ listP p, x ≤ 4611686018427387904 := fun x hx => (list_mem hx).2.1
  have hnd : (spareL p n).Nodup := by
    rw [hsp]
    unfold List.Nodup
    rw [List.pairwise_map]
    refine ((hr.sublist (List.take_sublist _ _)).imp_of_mem ?_)
    intro a b ha hb hab e
    have := nm_inj (hmx a (List.mem_of_mem_take ha)) (hmx b (List.mem_of_mem_take hb)) e
    omega
  have hin : ∀ x ∈ spareL p n, (lookP x p.fs).isSome = true := by
    rw [hsp]
    intro x hx
    obtain ⟨i, hi, rfl⟩ := List.mem_map.1 hx
    have := (list_iff.1 (List.mem_of_mem_take hi)).2.2
    unfold vw at this
    rwa [Option.isSome_map] at this
  obtain ⟨h0, hl⟩ := rem_all _ p hc.arm hc.dn hnd hin
  generalize (remL p (spareL p n)).2 = q at *
  have hmem : ∀ i, i ≤ 4611686018427387904 → (nmL i ∈ spareL p n ↔ i ∈ (listP p).take ((listP p).length - n)) := fun i hi => by
    rw [hsp, List.mem_map]
    constructor
    · rintro ⟨j, hj, e⟩
      rw [nm_inj hi (hmx j (List.mem_of_mem_take hj)) e.symm]; exact hj
    · intro h; exact ⟨i, h, rfl⟩
  have hv : ∀ i, i ≤ 4611686018427387904 → vw q (nmL i) = if i ∈ (listP p).take ((listP p).length - n) then none else vw p (nmL i) := fun i hi => by
    unfold vw
    rw [hl]
    by_cases hm : i ∈ (listP p).take ((listP p).length - n)
    · rw [if_pos ((hmem i hi).2 hm), if_pos hm]; rfl
    · rw [if_neg (fun e => hm ((hmem i hi).1 e)), if_neg hm]
  have hdj : ∀ x, x ∈ (listP p).drop ((listP p).length - n) → x ∉ (listP p).take ((listP p).length - n) := fun x h1 h2 => by
    have h3 := hr
    rw [← List.take_append_drop ((listP p).length - n) (listP p)] at h3
    have := (List.pairwise_append.1 h3).2.2 x h2 x h1
    omega
  have hlist : listP q = (listP p).drop ((listP p).length - n) := by
    refine sorted_ext (list_rise hq) (hr.sublist (List.drop_sublist _ _)) (fun x => ?_)
    constructor
    · intro hx
      obtain ⟨x1, x2, x3⟩ := list_iff.1 hx
      rw [hv x x2] at x3
      split at x3
      · cases x3
      · rename_i hn
        have := list_iff.2 ⟨x1, x2, x3⟩
        rw [← List.take_append_drop ((listP p).length - n) (listP p)] at this
        rcases List.mem_append.1 this with h | h
        · exact absurd h hn
        · exact h
    · intro hx
      obtain ⟨x1, x2, x3⟩ := list_iff.1 (List.mem_of_mem_drop hx)
      exact list_iff.2 ⟨x1, x2, by rw [hv x x2, if_neg (hdj x hx)]; exact x3⟩
  refine ⟨by rw [hsp]; simp, h0, hlist, fun s j hs hj => ?_⟩
  rcases load_cases p with e | ⟨s', j', c1, c2, c3, c4, c5⟩
  · rw [e] at hs; cases hs
  · rw [c2] at hs
    cases hs
    have hrev : (listP q).reverse = (listP p).reverse.take n := by
      rw [hlist, List.reverse_drop]
      by_cases hn : n ≤ (listP p).length
      · rw [show (listP p).length - ((listP p).length - n) = n by omega]
      · rw [show (listP p).length - ((listP p).length - n) = (listP p).length by omega, List.take_of_length_le (by simp), List.take_of_length_le (by simp; omega)]
    have hat : ∀ i, i ≤ j → (listP q).reverse.getD i 0 = (listP p).reverse.getD i 0 := fun i hi => by
      rw [hrev, List.getD_eq_getElem?_getD, List.getD_eq_getElem?_getD, List.getElem?_take, if_pos (by omega)]
    have hwq : ∀ i, i ≤ j → wholeP q ((listP p).reverse.getD i 0) = wholeP p ((listP p).reverse.getD i 0) := fun i hi => by
      have hx : (listP p).reverse.getD i 0 ∈ listP q := by
        rw [← hat i hi, List.getD_eq_getElem?_getD, List.getElem?_eq_getElem (by rw [hrev, List.length_take, List.length_reverse]; omega)]
        exact List.mem_reverse.1 (List.getElem_mem _)
      rw [hlist] at hx
      rw [whole_vw, whole_vw, hv _ (hmx _ (List.mem_of_mem_drop hx)), if_neg (hdj _ hx)]
    have hlen : j < (listP q).reverse.length := by rw [hrev, List.length_take, List.length_reverse]; omega
    have := loadL_step q (listP q).reverse j hlen (fun i hi => by rw [hat i (by omega), hwq i (by omega)]; exact c5 i hi)
    rw [hat j (Nat.le_refl _), hwq j (Nat.le_refl _), c4] at this
    exact this
end Go.Proofs.YtadajbdmlmickaaGreatDoor
