/-
  Load on plain disks whose snapshots' files are all whole.
-/
import Derived.Test.YtadajbdmlmickaaGreatDoorPa
namespace Go.Proofs.YtadajbdmlmickaaGreatDoor
open Go.RowKit
set_option linter.unusedVariables false

theorem list_iff {p : PD} {i : Nat} : i ∈ listP p ↔ 0 < i ∧ i ≤ 4611686018427387904 ∧ (vw p (nmL i)).isSome = true := by
  constructor
  · intro h
    obtain ⟨h1, h2, f, hf, hn⟩ := list_mem h
    refine ⟨h1, h2, ?_⟩
    unfold vw
    rw [Option.isSome_map]
    cases hl : lookP (nmL i) p.fs with
    | none => exact absurd hn (lookP_none hl hf)
    | some g => rfl
  · rintro ⟨h1, h2, h3⟩
    unfold vw at h3
    rw [Option.isSome_map] at h3
    obtain ⟨f, hf⟩ := Option.isSome_iff_exists.1 h3
    obtain ⟨hm, hn⟩ := lookP_nm hf
    unfold listP
    refine List.mem_filter.2 ⟨List.mem_map.2 ⟨f, hm, ?_⟩, by simpa using h1⟩
    rw [hn, idx_nm h2]
theorem whole_vw (p : PD) (i : Nat) : wholeP p i = (vw p (nmL i)).bind fun x => snapD i x.1 := by
  unfold wholeP vw
  cases lookP (nmL i) p.fs with
  | none => rfl
  | some f => rfl
theorem sorted_ext : ∀ {a b : List Nat}, a.Pairwise (· < ·) → b.Pairwise (· < ·) → (∀ x, x ∈ a ↔ x ∈ b) → a = b
  | [], [], _, _, _ => rfl
  | [], y :: t, _, _, h => absurd ((h y).2 (List.mem_cons_self ..)) (by simp)
  | x :: s, [], _, _, h => absurd ((h x).1 (List.mem_cons_self ..)) (by simp)
  | x :: s, y :: t, ha, hb, h => by
    obtain ⟨a1, a2⟩ := List.pairwise_cons.1 ha
    obtain ⟨b1, b2⟩ := List.pairwise_cons.1 hb
    have hxy : x = y := by
      rcases List.mem_cons.1 ((h x).1 (List.mem_cons_self ..)) with e | e
      · exact e
      · rcases List.mem_cons.1 ((h y).2 (List.mem_cons_self ..)) with e' | e'
        · exact e'.symm
        · have := b1 x e; have := a1 y e'; omega
    subst hxy
    rw [sorted_ext a2 b2 (fun z => ?_)]
    constructor
    · intro hz
      rcases List.mem_cons.1 ((h z).1 (List.mem_cons_of_mem _ hz)) with e | e
      · have := a1 z hz; omega
      · exact e
    · intro hz
      rcases List.mem_cons.1 ((h z).2 (List.mem_cons_of_mem _ hz)) with e | e
      · have := b1 z hz; omega
      · exact e
abbrev Rise (p : PD) : Prop := p.fs.Pairwise (fun f g => bytesBefore f.nm g.nm = true)
/-- Load hangs on what stands under snapshots' names. -/
theorem load_ext {p q : PD} (hp : Rise p) (hq : Rise q) (h : ∀ i, 0 < i → i ≤ 4611686018427387904 → (vw p (nmL i)).map Prod.fst = (vw q (nmL i)).map Prod.fst) : listP p = listP q ∧ loadS p = loadS q := by
  have hl : listP p = listP q := sorted_ext (list_rise hp) (list_rise hq) (fun i => by
    rw [list_iff, list_iff]
    constructor
    · rintro ⟨h1, h2, h3⟩
      refine ⟨h1, h2, ?_⟩
      have := congrArg Option.isSome (h i h1 h2)
      rw [Option.isSome_map, Option.isSome_map] at this
      rw [← this]; exact h3
    · rintro ⟨h1, h2, h3⟩
      refine ⟨h1, h2, ?_⟩
      have := congrArg Option.isSome (h i h1 h2)
      rw [Option.isSome_map, Option.isSome_map] at this
      rw [this]; exact h3)
  refine ⟨hl, ?_⟩
  have hw : ∀ i, 0 < i → i ≤ 4611686018427387904 → wholeP p i = wholeP q i := fun i hi hi2 => by
    have h9 := h i hi hi2
    rw [whole_vw, whole_vw]
    cases h1 : vw p (nmL i) with
    | none =>
      rw [h1] at h9
      cases h2 : vw q (nmL i) with
      | none => rfl
      | some y => rw [h2] at h9; cases h9
    | some x =>
      rw [h1] at h9
      cases h2 : vw q (nmL i) with
      | none => rw [h2] at h9; cases h9
      | some y =>
        rw [h2] at h9
        have e : x.1 = y.1 := by simpa using h9
        show snapD i x.1 = snapD i y.1
        rw [e]
  have main : ∀ (l : List Nat) (c : Nat), (∀ i ∈ l, 0 < i ∧ i ≤ 4611686018427387904) → loadL p l c = loadL q l c := by
    intro l
    induction l with
    | nil => intro c _; rfl
    | cons x r ih =>
      intro c hx
      simp only [loadL]
      rw [hw x (hx x (List.mem_cons_self ..)).1 (hx x (List.mem_cons_self ..)).2, ih (c + 1) (fun i hi => hx i (List.mem_cons_of_mem _ hi))]
  unfold loadS
  rw [hl]
  exact main _ 0 (fun i hi => ⟨(list_iff.1 (List.mem_reverse.1 hi)).1, (list_iff.1 (List.mem_reverse.1 hi)).2.1⟩)

/-- Each snapshot's file is whole and durable. -/
def Whl (p : PD) : Prop := ∀ i, 0 < i → i ≤ 4611686018427387904 → ∀ x, vw p (nmL i) = some x → x.2 = x.1.length ∧ (snapD i x.1).isSome = true
theorem Whl.nil (a : Nat) (b : Bool) : Whl ⟨[], a, b⟩ := fun i _ _ x h => by cases h
theorem Whl.arm {p : PD} (h : Whl p) (a : Nat) : Whl { p with arm := a } := h
theorem Whl.save {p : PD} (h : Whl p) (i t : Int) (m : List UInt8) : Whl (saveP p i t m).2 := fun j h1 h2 x hx => by
  rcases save_view p i t m (nm_tmp j) with ⟨-, e⟩ | ⟨-, hE, e⟩
  · rw [e] at hx; exact h j h1 h2 x hx
  · rw [e] at hx
    split at hx
    · rename_i hj
      obtain ⟨s1, s2, s3, -⟩ := snapD_fr hE
      have hji : j = i.toNat := by rw [← idx_nm h2, hj, idx_nm s3]
      cases hx
      refine ⟨rfl, ?_⟩
      rw [hji, s1]; rfl
    · exact h j h1 h2 x hx
theorem snapD_ix {i : Nat} {d : List UInt8} {s : Nat × Nat × List UInt8} (h : snapD i d = some s) : s.1 = i := by
  unfold snapD at h
  split at h
  · rename_i hc
    have e := Option.some.inj h
    rw [← e]
    exact hc.2.2
  · exact absurd h (by simp)
/-- What Load tells of such a disk. -/
theorem load_whl {p : PD} (hr : Rise p) (h : Whl p) : (listP p = [] ∧ loadS p = ((0, 0, []), 0, 8)) ∨ ∃ i s, i ∈ listP p ∧ (∀ j ∈ listP p, j ≤ i) ∧ wholeP p i = some s ∧ s.1 = i ∧ loadS p = (s, 0, 0) := by
  have hw : ∀ j ∈ listP p, ∃ s, wholeP p j = some s ∧ s.1 = j := fun j hj => by
    obtain ⟨h1, h2, h3⟩ := list_iff.1 hj
    obtain ⟨x, hx⟩ := Option.isSome_iff_exists.1 h3
    obtain ⟨s, hs⟩ := Option.isSome_iff_exists.1 (h j h1 h2 x hx).2
    exact ⟨s, by rw [whole_vw, hx]; exact hs, snapD_ix hs⟩
  have hrise := list_rise hr
  unfold loadS
  rcases List.eq_nil_or_concat (listP p) with e | ⟨l, i, e⟩
  · left
    rw [e]
    exact ⟨rfl, rfl⟩
  · right
    rw [e] at hw hrise ⊢
    obtain ⟨s, hs, hi⟩ := hw i (by simp)
    refine ⟨i, s, by simp, fun j hj => ?_, hs, hi, ?_⟩
    · have hj' : j ∈ l ∨ j = i := by simpa using hj
      rcases hj' with h9 | h9
      · rw [List.concat_eq_append] at hrise
        have := (List.pairwise_append.1 hrise).2.2 j h9 i (by simp)
        omega
      · omega
    · simp only [List.concat_eq_append, List.reverse_append, List.reverse_cons, List.reverse_nil, List.nil_append, List.cons_append, loadL, hs]
/-- A crash leaves what is durable. -/
theorem vw_crash {p : PD} {nm : List UInt8} {x : List UInt8 × Nat} (keep : Int) (hx : vw p nm = some x) (hd : x.2 = x.1.length) : vw (doCrash p keep) nm = some x := by
  unfold vw doCrash at *
  show (lookP nm (p.fs.map (crashP keep))).map _ = _
  rw [lookP_map (g := crashP keep) (fun f => rfl)]
  cases hl : lookP nm p.fs with
  | none => rw [hl] at hx; cases hx
  | some f =>
    rw [hl] at hx
    have hv : (f.dat, f.syn) = x := by simpa using hx
    subst hv
    simp only at hd
    show some ((crashP keep f).dat, (crashP keep f).syn) = some (f.dat, f.syn)
    unfold crashP
    have hs : (if f.late then f.syn + min keep.toNat (f.dat.length - f.syn) else f.syn) = f.dat.length := by
      split
      · rw [hd]; simp
      · exact hd
    simp only [hs, List.take_length]
    rw [hd]
theorem vw_crash_none {p : PD} {nm : List UInt8} (keep : Int) (hx : vw p nm = none) : vw (doCrash p keep) nm = none := by
  unfold vw doCrash at *
  show (lookP nm (p.fs.map (crashP keep))).map _ = _
  rw [lookP_map (g := crashP keep) (fun f => rfl)]
  cases hl : lookP nm p.fs with
  | none => rfl
  | some f => rw [hl] at hx; cases hx
theorem Whl.crash {p : PD} (h : Whl p) (keep : Int) : Whl (doCrash p keep) ∧ ∀ i, 0 < i → i ≤ 4611686018427387904 → vw (doCrash p keep) (nmL i) = vw p (nmL i) := by
  have hv : ∀ i, 0 < i → i ≤ 4611686018427387904 → vw (doCrash p keep) (nmL i) = vw p (nmL i) := fun i h1 h2 => by
    cases hx : vw p (nmL i) with
    | none => exact vw_crash_none keep hx
    | some x => exact vw_crash keep hx (h i h1 h2 x hx).1
  exact ⟨fun i h1 h2 x hx => h i h1 h2 x (by rw [← hv i h1 h2]; exact hx), hv⟩

/-- SnapAtomic's plain side. -/
theorem atom {p : PD} (hp : Rise p) (hw : Whl p) (a : Nat) (i t : Int) (m : List UInt8) (keep : Int) (hr : Rise (doCrash (saveP { p with arm := a } i t m).2 keep)) :
    (loadS (doCrash (saveP { p with arm := a } i t m).2 keep) = loadS p ∧ ((saveP { p with arm := a } i t m).1 = 0 → i < ((loadS p).1.1 : Int)) ∧ (loadS p).2.1 = 0) ∨ ((saveP { p with arm := a } i t m).1 = 0 ∧ loadS (doCrash (saveP { p with arm := a } i t m).2 keep) = ((i.toNat, t.toNat, m), 0, 0) ∧ ((loadS p).1.1 : Int) ≤ i ∧ ((i.toNat : Nat) : Int) = i ∧ ((t.toNat : Nat) : Int) = t) := by
  have hwa : Whl { p with arm := a } := hw.arm a
  have hws := hwa.save i t m
  obtain ⟨hwr, hvr⟩ := hws.crash keep
  have h0 : (loadS p).2.1 = 0 := by
    rcases load_whl hp hw with ⟨-, e⟩ | ⟨_, _, -, -, -, -, e⟩ <;> rw [e]
  by_cases hq : (saveP { p with arm := a } i t m).1 = 0
  · have hv : ∀ nm, nm ≠ tmpL → frmE i t m.length = 0 ∧ vw (saveP { p with arm := a } i t m).2 nm = if nm = nmL i.toNat then some (frL i t m, (frL i t m).length) else vw p nm := fun nm hnm => by
      rcases save_view { p with arm := a } i t m hnm with ⟨h9, -⟩ | ⟨-, h8, h9⟩
      · exact absurd hq h9
      · exact ⟨h8, h9⟩
    obtain ⟨hE, -⟩ := hv (nmL 0) (nm_tmp 0)
    obtain ⟨s1, s2, s3, s4, s5, s6⟩ := snapD_fr hE
    have hself : vw (doCrash (saveP { p with arm := a } i t m).2 keep) (nmL i.toNat) = some (frL i t m, (frL i t m).length) := by
      rw [hvr _ s2 s3, (hv _ (nm_tmp _)).2, if_pos rfl]
    have hoth : ∀ j, 0 < j → j ≤ 4611686018427387904 → j ≠ i.toNat → vw (doCrash (saveP { p with arm := a } i t m).2 keep) (nmL j) = vw p (nmL j) := fun j j1 j2 j3 => by
      rw [hvr _ j1 j2, (hv _ (nm_tmp _)).2, if_neg (fun e => j3 (by rw [← idx_nm j2, e, idx_nm s3]))]
    generalize doCrash (saveP { p with arm := a } i t m).2 keep = r at *
    have hin : i.toNat ∈ listP r := list_iff.2 ⟨s2, s3, by rw [hself]; rfl⟩
    rcases load_whl hr hwr with ⟨e, -⟩ | ⟨x, sx, x1, x2, x3, x4, x5⟩
    · rw [e] at hin; simp at hin
    · by_cases hx : x = i.toNat
      · right
        refine ⟨hq, ?_, ?_, s4, s5⟩
        · rw [x5]
          have : wholeP r i.toNat = some (i.toNat, t.toNat, m) := by rw [whole_vw, hself]; exact s1
          rw [hx, this] at x3
          rw [← Option.some.inj x3]
        · rcases load_whl hp hw with ⟨-, e⟩ | ⟨y, sy, y1, y2, y3, y4, y5⟩
          · rw [e]; show ((0 : Nat) : Int) ≤ i; omega
          · rw [y5]
            show ((sy.1 : Nat) : Int) ≤ i
            rw [y4]
            by_cases hy : y = i.toNat
            · omega
            · obtain ⟨q1, q2, q3⟩ := list_iff.1 y1
              have := x2 y (list_iff.2 ⟨q1, q2, by rw [hoth y q1 q2 hy]; exact q3⟩)
              omega
      · left
        obtain ⟨q1, q2, q3⟩ := list_iff.1 x1
        rw [hoth x q1 q2 hx] at q3
        have hxp : x ∈ listP p := list_iff.2 ⟨q1, q2, q3⟩
        have hlt := x2 i.toNat hin
        rcases load_whl hp hw with ⟨e, -⟩ | ⟨y, sy, y1, y2, y3, y4, y5⟩
        · rw [e] at hxp; simp at hxp
        · have hyx : y = x := by
            have h1 := y2 x hxp
            obtain ⟨r1, r2, r3⟩ := list_iff.1 y1
            by_cases hyi : y = i.toNat
            · omega
            · have := x2 y (list_iff.2 ⟨r1, r2, by rw [hoth y r1 r2 hyi]; exact r3⟩)
              omega
          subst hyx
          have hss : sx = sy := by
            rw [whole_vw, hoth y q1 q2 hx, ← whole_vw, y3] at x3
            exact (Option.some.inj x3).symm
          refine ⟨by rw [x5, y5, hss], fun _ => ?_, h0⟩
          rw [y5]
          show i < ((sy.1 : Nat) : Int)
          rw [y4]
          omega
  · left
    have hv : ∀ nm, nm ≠ tmpL → vw (saveP { p with arm := a } i t m).2 nm = vw p nm := fun nm hnm => by
      rcases save_view { p with arm := a } i t m hnm with ⟨-, h9⟩ | ⟨h9, -⟩
      · exact h9
      · exact absurd h9 hq
    refine ⟨(load_ext hr hp (fun j j1 j2 => by rw [hvr j j1 j2, hv _ (nm_tmp j)])).2, fun h9 => absurd h9 hq, h0⟩
end Go.Proofs.YtadajbdmlmickaaGreatDoor
