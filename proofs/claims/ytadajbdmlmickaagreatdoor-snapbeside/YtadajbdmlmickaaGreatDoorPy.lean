/-
  Files beside snapshots: what Save and Keep leave of them; two disks that have the same snapshots.
-/
import Derived.Test.YtadajbdmlmickaaGreatDoorPk
import Derived.Test.YtadajbdmlmickaaGreatDoorJDd
namespace Go.Proofs.YtadajbdmlmickaaGreatDoor
open Go.RowKit
set_option linter.unusedVariables false

/-- Neither a snapshot's file nor Temp. -/
def oth (f : PF) : Bool := decide (idxL f.nm = 0) && !(f.nm == tmpL)
def others (p : PD) : List (List UInt8 × List UInt8 × Int) := (p.fs.filter oth).map PF.says
theorem oth_tmp {f : PF} (h : f.nm = tmpL) : oth f = false := by unfold oth; simp [h]
theorem oth_idx {f : PF} (h : 0 < idxL f.nm) : oth f = false := by unfold oth; rw [show decide (idxL f.nm = 0) = false by simp; omega]; rfl
theorem filter_ins {f : PF} (h : oth f = false) : ∀ l, (insP f l).filter oth = l.filter oth
  | [] => by unfold insP; rw [List.filter_cons_of_neg (by simp [h])]
  | y :: q => by
    unfold insP
    split
    · rw [List.filter_cons_of_neg (by simp [h])]
    · by_cases hy : oth y = true
      · rw [List.filter_cons_of_pos hy, List.filter_cons_of_pos hy, filter_ins h q]
      · rw [List.filter_cons_of_neg hy, List.filter_cons_of_neg hy, filter_ins h q]
theorem filter_del {x : List UInt8} {l : List PF} (h : ∀ f ∈ l, f.nm = x → oth f = false) : (delP x l).filter oth = l.filter oth := by
  unfold delP
  rw [List.filter_filter]
  refine List.filter_congr fun f hf => ?_
  by_cases hn : f.nm = x
  · rw [h f hf hn]; rfl
  · simp [hn]
theorem others_map {g : PF → PF} (hn : ∀ f, (g f).nm = f.nm) (hs : ∀ f, oth f = true → (g f).says = f.says) (l : List PF) : ((l.map g).filter oth).map PF.says = (l.filter oth).map PF.says := by
  rw [List.filter_map, List.map_map]
  have e : (oth ∘ g) = oth := by funext f; show oth (g f) = oth f; unfold oth; rw [hn]
  rw [e]
  refine List.map_congr_left fun f hf => hs f (List.mem_filter.1 hf).2

theorem sum_cons (f : PF) (l : List PF) : sumP (f :: l) = f.dat.length + sumP l := by simp [sumP]
theorem sum_ins (g : PF → PF) (f : PF) : ∀ l, sumP ((insP f l).map g) = (g f).dat.length + sumP (l.map g)
  | [] => by simp [insP, sumP]
  | y :: q => by
    unfold insP
    split
    · rw [List.map_cons, sum_cons]
    · rw [List.map_cons, sum_cons, sum_ins g f q, List.map_cons, sum_cons]; omega
theorem sum_map {g : PF → PF} : ∀ {l : List PF}, (∀ f ∈ l, (g f).dat.length = f.dat.length) → sumP (l.map g) = sumP l
  | [], _ => rfl
  | f :: l, h => by
    rw [List.map_cons, sum_cons, sum_cons, h f (List.mem_cons_self ..), sum_map (fun x hx => h x (List.mem_cons_of_mem _ hx))]
theorem sum_del (x : List UInt8) : ∀ l, sumP (delP x l) ≤ sumP l
  | [] => Nat.le_refl _
  | f :: l => by
    have ih := sum_del x l
    unfold delP at ih ⊢
    rw [sum_cons]
    by_cases h : f.nm = x
    · rw [List.filter_cons_of_neg (by simp [h])]; omega
    · rw [List.filter_cons_of_pos (by simp [h]), sum_cons]; omega
theorem sum_look {x : List UInt8} {f : PF} : ∀ {l}, lookP x l = some f → sumP (delP x l) + f.dat.length ≤ sumP l
  | [], h => by cases h
  | y :: l, h => by
    have ih := fun h => sum_look (x := x) (f := f) (l := l) h
    have hd := sum_del x l
    unfold lookP at h ih
    unfold delP at ih hd ⊢
    rw [sum_cons]
    by_cases hy : y.nm = x
    · rw [List.find?_cons_of_pos (by simp [hy])] at h
      cases h
      rw [List.filter_cons_of_neg (by simp [hy])]; omega
    · rw [List.find?_cons_of_neg (by simp [hy])] at h
      have := ih h
      rw [List.filter_cons_of_pos (by simp [hy]), sum_cons]; omega

/-- Nothing armed, room, no Temp. -/
structure Rm (p : PD) (k B : Nat) : Prop where
  arm : p.arm = 0
  dn : p.dn = false
  tmp : lookP tmpL p.fs = none
  len : p.fs.length ≤ k
  sum : sumP p.fs ≤ B
theorem Rm.fell {p : PD} {k B : Nat} (h : Rm p k B) : p.fell = false := by unfold PD.fell; rw [h.arm]; rfl
theorem Rm.mono {p : PD} {k B k' B' : Nat} (h : Rm p k B) (hk : k ≤ k') (hB : B ≤ B') : Rm p k' B' := ⟨h.arm, h.dn, h.tmp, Nat.le_trans h.len hk, Nat.le_trans h.sum hB⟩
theorem Rm.nil (k B : Nat) : Rm ⟨[], 0, false⟩ k B := ⟨rfl, rfl, rfl, by simp, by simp [sumP]⟩

theorem Rm.save {p : PD} {k B : Nat} (h : Rm p k B) (hk : k ≤ 254) (i t : Int) (m : List UInt8) (hB : B + (27 * min m.length 20000 + 40) ≤ 16777216) :
    Rm (saveP p i t m).2 (k + 1) (B + (27 * min m.length 20000 + 40)) ∧ (saveP p i t m).1 = frmE i t m.length ∧ others (saveP p i t m).2 = others p := by
  unfold saveP
  by_cases hE : frmE i t m.length = 0
  · rw [if_neg (by simpa using hE), hE]
    obtain ⟨-, s2, s3, -, -, hm⟩ := snapD_fr hE
    have hbl : (frL i t m).length ≤ 38 + m.length := by
      have := Cd.txSnap_len i t m
      unfold frL
      rw [Fr.frameB_len]
      omega
    have hbb : (frL i t m).length ≤ 27 * min m.length 20000 + 40 := by omega
    generalize 27 * min m.length 20000 + 40 = Z at *
    generalize frL i t m = b at *
    generalize i.toNat = n at *
    clear hE hm hbl
    have hB' : B + Z ≤ 16777216 := by omega
    clear hB
    have hfail : p.fail = p := fail_eq h.arm
    have hfell := h.fell
    unfold saveS
    rw [if_neg (by rw [h.tmp]; simp)]
    have e2 : doCreate p tmpL = (0, { p with fs := insP ⟨tmpL, [], 0, false⟩ (delP tmpL p.fs) }) := by
      unfold doCreate
      rw [if_neg (by rw [h.dn]; simp), if_neg (by rw [isNm_tmp]; simp), if_neg (by rw [h.tmp]; simp), if_neg (by have := h.len; omega), hfell, if_neg (by simp), hfail]
    obtain ⟨p2, hp2⟩ : ∃ p2 : PD, p2 = { p with fs := insP ⟨tmpL, [], 0, false⟩ (delP tmpL p.fs) } := ⟨_, rfl⟩
    rw [← hp2] at e2
    have a2 : p2.arm = 0 := by rw [hp2]; exact h.arm
    have d2 : p2.dn = false := by rw [hp2]; exact h.dn
    have l2 : p2.fs.length ≤ k + 1 := by rw [hp2]; show (insP _ _).length ≤ _; rw [ins_len]; have := del_le tmpL p.fs; have := h.len; omega
    have s2' : lookP tmpL p2.fs = some ⟨tmpL, [], 0, false⟩ := by rw [hp2]; show lookP tmpL (insP _ _) = _; rw [lookP_ins (fun g hg => mem_del hg), if_pos rfl]
    have u2 : sumP p2.fs ≤ B := by
      have h1 := sum_ins id ⟨tmpL, [], 0, false⟩ (delP tmpL p.fs)
      have h2 := sum_del tmpL p.fs
      have h3 := h.sum
      rw [hp2]
      show sumP (insP _ _) ≤ _
      simp only [List.map_id, id_eq, List.length_nil] at h1
      omega
    have w2 : sumP (p2.fs.map (appP tmpL b)) ≤ B + b.length := by
      have h1 := sum_ins (appP tmpL b) ⟨tmpL, [], 0, false⟩ (delP tmpL p.fs)
      have h2 := sum_del tmpL p.fs
      have h3 := h.sum
      have h4 : sumP ((delP tmpL p.fs).map (appP tmpL b)) = sumP (delP tmpL p.fs) := sum_map (fun f hf => by unfold appP; rw [if_neg (by simpa using mem_del hf)])
      have h5 : (appP tmpL b ⟨tmpL, [], 0, false⟩).dat.length = b.length := by unfold appP; rw [if_pos (by simp)]; simp
      rw [hp2]
      show sumP ((insP _ _).map _) ≤ _
      omega
    have o2 : (p2.fs.filter oth).map PF.says = others p := by
      rw [hp2]
      show ((insP _ _).filter oth).map PF.says = _
      rw [filter_ins (oth_tmp rfl), filter_del (fun f _ hn => oth_tmp hn)]
      rfl
    clear hp2
    have e3 : doAppend p2 tmpL b = (0, { p2 with fs := p2.fs.map (appP tmpL b) }) := by
      unfold doAppend
      rw [if_neg (by rw [d2]; simp), if_neg (by rw [s2']; simp), if_neg (by omega), show p2.fell = false by unfold PD.fell; rw [a2]; rfl, if_neg (by simp), fail_eq a2]
    obtain ⟨p3, hp3⟩ : ∃ p3 : PD, p3 = { p2 with fs := p2.fs.map (appP tmpL b) } := ⟨_, rfl⟩
    rw [← hp3] at e3
    have a3 : p3.arm = 0 := by rw [hp3]; exact a2
    have d3 : p3.dn = false := by rw [hp3]; exact d2
    have l3 : p3.fs.length ≤ k + 1 := by rw [hp3]; show (p2.fs.map _).length ≤ _; rw [List.length_map]; exact l2
    have s3' : (lookP tmpL p3.fs).isSome = true := by rw [hp3]; show (lookP tmpL (p2.fs.map _)).isSome = _; rw [lookP_map (fun f => by unfold appP; split <;> rfl), s2']; rfl
    have u3 : sumP p3.fs ≤ B + b.length := by rw [hp3]; exact w2
    have o3 : (p3.fs.filter oth).map PF.says = others p := by
      rw [hp3]
      show ((p2.fs.map _).filter oth).map PF.says = _
      rw [others_map (fun f => by unfold appP; split <;> rfl) (fun f hf => by
        unfold appP
        split
        · rename_i hc; rw [oth_tmp (by simpa using hc)] at hf; cases hf
        · rfl), o2]
    clear hp3
    have e4 : doSync p3 tmpL = (0, { p3 with fs := p3.fs.map (syncP tmpL) }) := by
      unfold doSync
      rw [if_neg (by rw [d3]; simp), if_neg (by rw [s3']; simp), show p3.fell = false by unfold PD.fell; rw [a3]; rfl, if_neg (by simp), fail_eq a3]
    obtain ⟨p4, hp4⟩ : ∃ p4 : PD, p4 = { p3 with fs := p3.fs.map (syncP tmpL) } := ⟨_, rfl⟩
    rw [← hp4] at e4
    have a4 : p4.arm = 0 := by rw [hp4]; exact a3
    have d4 : p4.dn = false := by rw [hp4]; exact d3
    have l4 : p4.fs.length ≤ k + 1 := by rw [hp4]; show (p3.fs.map _).length ≤ _; rw [List.length_map]; exact l3
    have s4 : (lookP tmpL p4.fs).isSome = true := by rw [hp4]; show (lookP tmpL (p3.fs.map _)).isSome = _; rw [lookP_map (fun f => by unfold syncP; split <;> rfl), Option.isSome_map]; exact s3'
    have u4 : sumP p4.fs ≤ B + b.length := by
      rw [hp4]
      show sumP (p3.fs.map _) ≤ _
      rw [sum_map (fun f _ => by unfold syncP; split <;> rfl)]; exact u3
    have o4 : (p4.fs.filter oth).map PF.says = others p := by
      rw [hp4]
      show ((p3.fs.map _).filter oth).map PF.says = _
      rw [others_map (fun f => by unfold syncP; split <;> rfl) (fun f hf => by
        unfold syncP
        split
        · rename_i hc; rw [oth_tmp (by simpa using hc)] at hf; cases hf
        · rfl), o3]
    clear hp4
    obtain ⟨f4, hf4⟩ := Option.isSome_iff_exists.1 s4
    have hnt : nmL n ≠ tmpL := nm_tmp n
    have hni : idxL (nmL n) = n := idx_nm s3
    have e5 : doRename p4 tmpL (nmL n) = (0, { p4 with fs := insP { f4 with nm := nmL n } (delP (nmL n) (delP tmpL (delP (nmL n) p4.fs))) }) := by
      unfold doRename
      rw [if_neg (by rw [d4]; simp), hf4]
      simp only
      rw [if_neg (by rw [isNm_nm]; simp), show p4.fell = false by unfold PD.fell; rw [a4]; rfl, if_neg (by simp), if_neg (fun e => hnt e.symm), fail_eq a4]
    have t1 : thenP (0, p) (fun q => doCreate q tmpL) = (0, p2) := by unfold thenP; rw [if_pos rfl]; exact e2
    have t2 : thenP (0, p2) (fun q => doAppend q tmpL b) = (0, p3) := by unfold thenP; rw [if_pos rfl]; exact e3
    have t3 : thenP (0, p3) (fun q => doSync q tmpL) = (0, p4) := by unfold thenP; rw [if_pos rfl]; exact e4
    rw [t1, t2, t3]
    have t4 : thenP (0, p4) (fun q => doRename q tmpL (nmL n)) = doRename p4 tmpL (nmL n) := by unfold thenP; rw [if_pos rfl]
    rw [t4, e5]
    have hlt : lookP tmpL (delP (nmL n) p4.fs) = some f4 := by rw [lookP_del, if_neg (fun e => hnt e.symm)]; exact hf4
    have q1 : (delP tmpL (delP (nmL n) p4.fs)).length < (delP (nmL n) p4.fs).length := del_lt (by rw [hlt]; rfl)
    have q2 := del_le (nmL n) p4.fs
    have q3 := del_le (nmL n) (delP tmpL (delP (nmL n) p4.fs))
    refine ⟨⟨a4, d4, ?_, ?_, ?_⟩, rfl, ?_⟩
    · show lookP tmpL (insP _ _) = none
      rw [lookP_ins (fun g hg => mem_del hg), if_neg hnt, lookP_del, if_neg (fun e => hnt e.symm), lookP_del, if_pos rfl]
    · show (insP _ _).length ≤ _
      rw [ins_len]; omega
    · have h1 := sum_ins id { f4 with nm := nmL n } (delP (nmL n) (delP tmpL (delP (nmL n) p4.fs)))
      have h2 := sum_del (nmL n) (delP tmpL (delP (nmL n) p4.fs))
      have h3 := sum_look hlt
      have h4 := sum_del (nmL n) p4.fs
      show sumP (insP _ _) ≤ _
      simp only [List.map_id, id_eq] at h1
      omega
    · show ((insP _ _).filter oth).map PF.says = _
      rw [filter_ins (oth_idx (by show 0 < idxL (nmL n); omega)), filter_del (fun f _ hn => oth_idx (by rw [hn]; omega)), filter_del (fun f _ hn => oth_tmp hn), filter_del (fun f _ hn => oth_idx (by rw [hn]; omega))]
      exact o4
  · rw [if_pos hE]
    exact ⟨h.mono (by omega) (by omega), rfl, rfl⟩

/-- Removes of snapshots' files. -/
theorem rem_rm : ∀ (l : List (List UInt8)) (p : PD) (k B : Nat), Rm p k B → (∀ x ∈ l, x = tmpL ∨ 0 < idxL x) → Rm (remL p l).2 k B ∧ others (remL p l).2 = others p
  | [], p, k, B, h, _ => ⟨h, rfl⟩
  | x :: r, p, k, B, h, hx => by
    have h1 : Rm (doRemove p x).2 k B ∧ others (doRemove p x).2 = others p := by
      unfold doRemove
      rw [if_neg (by rw [h.dn]; simp)]
      split
      · exact ⟨h, rfl⟩
      · rw [h.fell, if_neg (by simp), fail_eq h.arm]
        refine ⟨⟨h.arm, h.dn, ?_, Nat.le_trans (del_le _ _) h.len, Nat.le_trans (sum_del _ _) h.sum⟩, ?_⟩
        · show lookP tmpL (delP x p.fs) = none
          rw [lookP_del, h.tmp]; split <;> rfl
        · show ((delP x p.fs).filter oth).map PF.says = _
          rw [filter_del (fun f _ hn => by
            rcases hx x (List.mem_cons_self ..) with e | e
            · exact oth_tmp (hn.trans e)
            · exact oth_idx (by rw [hn]; exact e))]
          rfl
    show Rm (thenP (doRemove p x) (fun q => remL q r)).2 k B ∧ others (thenP (doRemove p x) (fun q => remL q r)).2 = others p
    unfold thenP
    split
    · obtain ⟨h2, h3⟩ := rem_rm r (doRemove p x).2 k B h1.1 (fun y hy => hx y (List.mem_cons_of_mem _ hy))
      exact ⟨h2, h3.trans h1.2⟩
    · exact h1
theorem spare_nm {p : PD} {n : Nat} : ∀ x ∈ spareL p n, x = tmpL ∨ 0 < idxL x := fun x hx => by
  unfold spareL at hx
  rcases List.mem_append.1 hx with h | h
  · split at h
    · exact .inl (List.mem_singleton.1 h)
    · simp at h
  · obtain ⟨i, hi, rfl⟩ := List.mem_map.1 h
    obtain ⟨i1, i2, -⟩ := list_mem (List.mem_of_mem_take hi)
    exact .inr (by rw [idx_nm i2]; exact i1)
theorem Rm.keep {p : PD} {k B : Nat} (h : Rm p k B) (n : Nat) : Rm (remL p (spareL p n)).2 k B ∧ others (remL p (spareL p n)).2 = others p := rem_rm _ p k B h spare_nm

/-- Two disks with the same snapshots. -/
def Bes (a b : PD) : Prop := ∀ i, 0 < i → i ≤ 4611686018427387904 → vw a (nmL i) = vw b (nmL i)
theorem Bes.list {a b : PD} (h : Bes a b) (ha : Rise a) (hb : Rise b) : listP a = listP b ∧ loadS a = loadS b := load_ext ha hb (fun i h1 h2 => by rw [h i h1 h2])
theorem Bes.save {a b : PD} (h : Bes a b) (i t : Int) (m : List UInt8) (ea : (saveP a i t m).1 = frmE i t m.length) (eb : (saveP b i t m).1 = frmE i t m.length) : Bes (saveP a i t m).2 (saveP b i t m).2 := fun j h1 h2 => by
  rcases save_view a i t m (nm_tmp j) with ⟨a1, a2⟩ | ⟨a1, a2, a3⟩
  · rcases save_view b i t m (nm_tmp j) with ⟨b1, b2⟩ | ⟨b1, b2, b3⟩
    · rw [a2, b2]; exact h j h1 h2
    · rw [eb] at b1; rw [ea] at a1; exact absurd b1 a1
  · rcases save_view b i t m (nm_tmp j) with ⟨b1, b2⟩ | ⟨b1, b2, b3⟩
    · rw [eb] at b1; exact absurd a2 b1
    · rw [a3, b3, h j h1 h2]
theorem keep_view {p : PD} {k B n : Nat} (hp : Rise p) (hc : Rm p k B) : spareL p n = ((listP p).take ((listP p).length - n)).map nmL ∧ ∀ nm, vw (remL p (spareL p n)).2 nm = if nm ∈ spareL p n then none else vw p nm := by
  have hsp : spareL p n = ((listP p).take ((listP p).length - n)).map nmL := by unfold spareL; rw [hc.tmp]; rfl
  have hr := list_rise hp
  have hmx : ∀ x ∈ listP p, x ≤ 4611686018427387904 := fun x hx => (list_mem hx).2.1
  have hnd : (spareL p n).Nodup := by
    rw [hsp]
    unfold List.Nodup
    rw [List.pairwise_map]
    refine ((hr.sublist (List.take_sublist _ _)).imp_of_mem ?_)
    intro a b ha hb hab e
    have := nm_inj (hmx a (List.mem_of_mem_take ha)) (hmx b (List.mem_of_mem_take hb)) e
    omega
  have hin : ∀ x ∈ spareL p n, (lookP x p.fs).isSome = true := by
    rw [hsp]
    intro x hx
    obtain ⟨i, hi, rfl⟩ := List.mem_map.1 hx
    have := (list_iff.1 (List.mem_of_mem_take hi)).2.2
    unfold vw at this
    rwa [Option.isSome_map] at this
  obtain ⟨h0, hl⟩ := rem_all _ p hc.arm hc.dn hnd hin
  refine ⟨hsp, fun nm => ?_⟩
  unfold vw
  rw [hl]
  split <;> rfl
theorem Bes.keep {a b : PD} {k B k' B' n : Nat} (h : Bes a b) (ha : Rise a) (hb : Rise b) (ca : Rm a k B) (cb : Rm b k' B') : Bes (remL a (spareL a n)).2 (remL b (spareL b n)).2 := fun i h1 h2 => by
  obtain ⟨sa, va⟩ := keep_view (n := n) ha ca
  obtain ⟨sb, vb⟩ := keep_view (n := n) hb cb
  have e : spareL a n = spareL b n := by rw [sa, sb, (h.list ha hb).1]
  rw [va, vb, e, h i h1 h2]

/-! What is done to other files ahead. -/
def NoS (p : PD) : Prop := ∀ i, 0 < i → i ≤ 4611686018427387904 → vw p (nmL i) = none
theorem NoS.bes {p : PD} (h : NoS p) : Bes p ⟨[], 0, false⟩ := fun i h1 h2 => by rw [h i h1 h2]; rfl
theorem nm_ne {nm : List UInt8} (h : idxL nm = 0) {i : Nat} (h1 : 0 < i) (h2 : i ≤ 4611686018427387904) : nm ≠ nmL i := fun e => by rw [e, idx_nm h2] at h; omega
theorem Rm.create {p : PD} {k B : Nat} (h : Rm p k B) (hs : NoS p) {nm : List UInt8} (hn : nm ≠ tmpL) (hi : idxL nm = 0) : Rm (doCreate p nm).2 (k + 1) B ∧ NoS (doCreate p nm).2 := by
  unfold doCreate
  rw [if_neg (by rw [h.dn]; simp)]
  repeat' split
  · exact ⟨h.mono (by omega) (Nat.le_refl _), hs⟩
  · exact ⟨h.mono (by omega) (Nat.le_refl _), hs⟩
  · exact ⟨h.mono (by omega) (Nat.le_refl _), hs⟩
  · rename_i hf; rw [h.fell] at hf; cases hf
  · rw [fail_eq h.arm]
    refine ⟨⟨h.arm, h.dn, ?_, ?_, ?_⟩, fun i h1 h2 => ?_⟩
    · show lookP tmpL (insP _ _) = none
      rw [lookP_ins (fun g hg => mem_del hg), if_neg hn, lookP_del, h.tmp]; split <;> rfl
    · show (insP _ _).length ≤ _
      rw [ins_len]; have := del_le nm p.fs; have := h.len; omega
    · have h1 := sum_ins id ⟨nm, [], 0, false⟩ (delP nm p.fs)
      have h2 := sum_del nm p.fs
      have h3 := h.sum
      show sumP (insP _ _) ≤ _
      simp only [List.map_id, id_eq, List.length_nil] at h1
      omega
    · have := hs i h1 h2
      unfold vw at this ⊢
      show (lookP (nmL i) (insP _ _)).map _ = none
      rw [lookP_ins (fun g hg => mem_del hg), if_neg (nm_ne hi h1 h2), lookP_del, if_neg (fun e => nm_ne hi h1 h2 e.symm)]
      exact this
theorem Rm.sync {p : PD} {k B : Nat} (h : Rm p k B) (hs : NoS p) (nm : List UInt8) : Rm (doSync p nm).2 k B ∧ NoS (doSync p nm).2 := by
  unfold doSync
  rw [if_neg (by rw [h.dn]; simp)]
  repeat' split
  · exact ⟨h, hs⟩
  · rename_i hf; rw [h.fell] at hf; cases hf
  · rw [fail_eq h.arm]
    refine ⟨⟨h.arm, h.dn, ?_, ?_, ?_⟩, fun i h1 h2 => ?_⟩
    · show lookP tmpL (p.fs.map _) = none
      rw [lookP_map (fun f => by unfold syncP; split <;> rfl), h.tmp]; rfl
    · show (p.fs.map _).length ≤ _
      rw [List.length_map]; exact h.len
    · show sumP (p.fs.map _) ≤ _
      rw [sum_map (fun f _ => by unfold syncP; split <;> rfl)]; exact h.sum
    · have := hs i h1 h2
      unfold vw at this ⊢
      show (lookP (nmL i) (p.fs.map _)).map _ = none
      rw [lookP_map (fun f => by unfold syncP; split <;> rfl)]
      rw [Option.map_eq_none_iff] at this ⊢
      rw [this]; rfl
theorem Rm.append {p : PD} {k B : Nat} (h : Rm p k B) (hs : NoS p) (nm b : List UInt8) (hb : lookP nm p.fs = none ∨ b.length ≤ 20000) (hu : (p.fs.map PF.nm).Nodup) : Rm (doAppend p nm b).2 k (B + min b.length 20000) ∧ NoS (doAppend p nm b).2 := by
  unfold doAppend
  rw [if_neg (by rw [h.dn]; simp)]
  split
  · exact ⟨h.mono (Nat.le_refl _) (by omega), hs⟩
  · rename_i hl
    split
    · exact ⟨h.mono (Nat.le_refl _) (by omega), hs⟩
    · rw [h.fell, if_neg (by simp), fail_eq h.arm]
      have hb' : b.length ≤ 20000 := by
        rcases hb with e | e
        · rw [e] at hl; simp at hl
        · exact e
      refine ⟨⟨h.arm, h.dn, ?_, ?_, ?_⟩, fun i h1 h2 => ?_⟩
      · show lookP tmpL (p.fs.map _) = none
        rw [lookP_map (fun f => by unfold appP; split <;> rfl), h.tmp]; rfl
      · show (p.fs.map _).length ≤ _
        rw [List.length_map]; exact h.len
      · show sumP (p.fs.map _) ≤ _
        have key : ∀ l : List PF, (l.map PF.nm).Nodup → sumP (l.map (appP nm b)) ≤ sumP l + b.length := by
          intro l
          induction l with
          | nil => intro _; simp [sumP]
          | cons f l ih =>
            intro hnd
            rw [List.map_cons] at hnd
            obtain ⟨n1, n2⟩ := List.nodup_cons.1 hnd
            rw [List.map_cons, sum_cons, sum_cons]
            by_cases hf : f.nm = nm
            · have h4 : sumP (l.map (appP nm b)) = sumP l := sum_map (fun g hg => by
                unfold appP
                rw [if_neg (by simp; intro e; exact n1 (by rw [hf, ← e]; exact List.mem_map_of_mem hg))])
              have h5 : (appP nm b f).dat.length = f.dat.length + b.length := by unfold appP; rw [if_pos (by simp [hf])]; simp
              omega
            · have h5 : (appP nm b f).dat.length = f.dat.length := by unfold appP; rw [if_neg (by simp [hf])]
              have := ih n2
              omega
        have := key p.fs hu
        have := h.sum
        omega
      · have := hs i h1 h2
        unfold vw at this ⊢
        show (lookP (nmL i) (p.fs.map _)).map _ = none
        rw [lookP_map (fun f => by unfold appP; split <;> rfl)]
        rw [Option.map_eq_none_iff] at this ⊢
        rw [this]; rfl
theorem before_irr : ∀ (l : List UInt8), bytesBefore l l = false
  | [] => rfl
  | x :: l => by simp [bytesBefore, before_irr l]
theorem rise_nodup {p : PD} (h : Rise p) : (p.fs.map PF.nm).Nodup := by
  unfold List.Nodup
  rw [List.pairwise_map]
  exact h.imp (fun {a b} hab e => by rw [e] at hab; rw [before_irr] at hab; cases hab)
end Go.Proofs.YtadajbdmlmickaaGreatDoor
