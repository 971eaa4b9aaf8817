/-
  A history in memory; how many of a key count.
-/
import Derived.Test.YtbcnpdpdflkanaaSo
namespace Go.Proofs.Ytbcnpdpdflkanaa
open Go.RowKit

/-- An operation in ten cells. -/
def OpAt (w : World) (b off : Nat) (x : Lo) : Prop :=
  w.cell? ⟨b, off, none⟩ = some (.int .i64 x.cl) ∧ w.cell? ⟨b, off + 1, none⟩ = some (.int .i64 x.sq) ∧ w.cell? ⟨b, off + 2, none⟩ = some (.int .i64 x.kind) ∧ w.cell? ⟨b, off + 3, none⟩ = some (str x.key) ∧ w.cell? ⟨b, off + 4, none⟩ = some (str x.val) ∧ w.cell? ⟨b, off + 5, none⟩ = some (str x.old) ∧
  w.cell? ⟨b, off + 6, none⟩ = some (.int .i64 x.call) ∧ w.cell? ⟨b, off + 7, none⟩ = some (.int .i64 x.back) ∧ w.cell? ⟨b, off + 8, none⟩ = some (.int .i64 x.rp.code) ∧ w.cell? ⟨b, off + 9, none⟩ = some (str x.rp.val)
/-- Operations one behind the other, in a block below N. -/
def HAt (N : Nat) (w : World) (a : Option Addr) (h : List Lo) : Prop :=
  h = [] ∨ ∃ b off, a = some ⟨b, off, none⟩ ∧ b < N ∧ ∀ i, i < h.length → OpAt w b (off + i * 10) (oat h i)
/-- Strings that may be. -/
structure LoOk (x : Lo) : Prop where
  key : x.key.length ≤ maxLen
  val : x.val.length ≤ maxLen
  old : x.old.length ≤ maxLen
  rv : x.rp.val.length ≤ maxLen

theorem OpAt.same {w w' : World} {b off : Nat} {x : Lo} (h : OpAt w b off x) (hc : ∀ o, w'.cell? ⟨b, o, none⟩ = w.cell? ⟨b, o, none⟩) : OpAt w' b off x := by
  unfold OpAt at *
  simp only [hc]
  exact h
theorem HAt.below {N : Nat} {w w' : World} {a : Option Addr} {h : List Lo} (hA : HAt N w a h) (hB : Below N w w') : HAt N w' a h := by
  rcases hA with hA | ⟨b, off, rfl, hb, hc⟩
  · exact .inl hA
  · exact .inr ⟨b, off, rfl, hb, fun i hi => (hc i hi).same (fun o => hB.cell (p := ⟨b, o, none⟩) hb)⟩
theorem HAt.mono {N M : Nat} {w : World} {a : Option Addr} {h : List Lo} (hA : HAt N w a h) (hM : N ≤ M) : HAt M w a h := by
  rcases hA with hA | ⟨b, off, rfl, hb, hc⟩
  · exact .inl hA
  · exact .inr ⟨b, off, rfl, by omega, hc⟩
theorem HAt.at {N : Nat} {w : World} {a : Option Addr} {h : List Lo} (hA : HAt N w a h) {i : Nat} (hi : i < h.length) : ∃ b off, a = some ⟨b, off, none⟩ ∧ b < N ∧ OpAt w b (off + i * 10) (oat h i) := by
  rcases hA with rfl | ⟨b, off, rfl, hb, hc⟩
  · simp at hi
  · exact ⟨b, off, rfl, hb, hc i hi⟩
theorem oat_mem {h : List Lo} {i : Nat} (hi : i < h.length) : oat h i ∈ h := by
  unfold oat; rw [List.getElem?_eq_getElem hi]; exact List.getElem_mem hi

/-! ### how many -/
/-- How many of the first i operations are of a key and count. -/
def cntK (h : List Lo) (i : Nat) (key : Bs) : Nat := ((List.range i).filter (mine h key)).length
theorem cntK_succ (h : List Lo) (i : Nat) (key : Bs) : cntK h (i + 1) key = cntK h i key + (if mine h key i then 1 else 0) := by
  unfold cntK
  rw [List.range_succ, List.filter_append, List.length_append]
  congr 1
  by_cases h1 : mine h key i = true
  · simp [h1]
  · simp [h1]
theorem cntK_le (h : List Lo) (i : Nat) (key : Bs) : cntK h i key ≤ i := by
  unfold cntK
  have := List.length_filter_le (mine h key) (List.range i)
  simpa using this
/-- A map reads how many there are of each key. -/
structure Cnt (c : Bs → Nat) (D : DataW Unit) : Prop where
  isMap : Maps.IsMap D
  at0 : ∀ k, D.atKey (.string k) (.lit (.int .i64 0)) = .lit (.int .i64 (c k))
  has : ∀ k, Maps.has D (.string k) = decide (0 < c k)

theorem isKey_str (k : Bs) : WideAt.IsKeyLit (.string k) := by trivial
theorem Cnt.put {c c' : Bs → Nat} {D : DataW Unit} (h : Cnt c D) (key : Bs) (h1 : c' key = c key + 1) (h2 : ∀ k, k ≠ key → c' k = c k) : Cnt c' (D.put (.string key) (.lit (.int .i64 ((c key : Int) + 1)))) := by
  refine ⟨?_, fun k => ?_, fun k => ?_⟩
  · obtain ⟨es, rfl⟩ := h.isMap; exact ⟨_, rfl⟩
  · by_cases e : k = key
    · subst e; rw [Maps.atKey_put_same h.isMap (isKey_str _), h1]; rfl
    · rw [Maps.atKey_put_other (by simpa using e), h.at0, h2 k e]
  · by_cases e : k = key
    · subst e; rw [Maps.has_put_same h.isMap (isKey_str _), h1]; simp
    · rw [Maps.has_put_other (by simpa using e), h.has, h2 k e]

theorem min_i64 : IntKind.i64.min = -9223372036854775808 := by decide
theorem max_i64 : IntKind.i64.max = 9223372036854775807 := by decide
theorem wf_i64 {n : Int} (h1 : -9223372036854775808 ≤ n) (h2 : n ≤ 9223372036854775807) : (Lit.int .i64 n).wf = true := by
  show (decide (IntKind.i64.min ≤ n) && decide (n ≤ IntKind.i64.max)) = true
  rw [min_i64, max_i64, Bool.and_eq_true, decide_eq_true_eq, decide_eq_true_eq]
  exact ⟨h1, h2⟩

theorem keyOf_str {k : Bs} (h : k.length ≤ maxLen) : keyOf Try.prog 9 (str k) = some (.string k) := by
  unfold maxLen at h
  unfold str
  simp [keyOf, Try.underlying9, mapKey, maxLen, ByteArray.size]
  omega

theorem zero3 (w : World) : (zeroValue 3).run Try.prog w = .ok (.int .i64 0) w := by
  simp [Try.zeroValue3]

set_option maxRecDepth 100000 in
set_option maxHeartbeats 1000000 in
theorem counted_any (N : Nat) (w : World) (a : Option Addr) (cap : Nat) (h : List Lo) (hN : N ≤ w.heap.size) (hA : HAt N w a h) (hok : ∀ x ∈ h, LoOk x) (hl : h.length ≤ 1000) :
    Calls Try.prog 29 #[.slice a h.length cap] w fun e w' => ∃ b D, e = .returned (.map (some b)) ∧ w'.ownsMap Try.prog 9 (plainElem Try.prog 3) b h.length D ∧ Cnt (cntK h h.length) D ∧ w.heap.size ≤ b ∧ Below w.heap.size w w' := by
  have HC := counts_any
  have hmm := @run_makeMap Try.prog
  go_enter Try.func29, Try.ntmps29
  go_wp2
  go_loopw [9] (fun i wr => ∃ (k : Nat) (D : DataW Unit), i = .int .i64 k ∧ k ≤ h.length ∧ wr.ownsMap Try.prog 9 (plainElem Try.prog 3) w.heap.size k D ∧ Cnt (cntK h k) D ∧ Below w.heap.size w wr ∧ w.heap.size + 1 ≤ wr.heap.size) (fun i _ => h.length - (intOf i).toNat)
  case atStart => exact ⟨0, .map [], rfl, by omega, World.ownsMap_made _ _ _ _, ⟨⟨[], rfl⟩, fun k => rfl, fun k => rfl⟩, (Below.refl _ w).alloc (Nat.le_refl _) _, by simp⟩
  case round =>
    obtain ⟨k, D, rfl, hk, hM, hC, hB, hz⟩ := hrel
    by_cases hlt : k < h.length
    · obtain ⟨b, off, rfl, hb, hcs⟩ := (hA.below (hB.mono hN)).at hlt
      have hOk := hok _ (oat_mem hlt)
      have hsucc := cntK_succ h k
      unfold mine at hsucc
      generalize oat h k = x at *
      obtain ⟨c0, c1, c2, c3, c4, c5, c6, c7, c8, c9⟩ := hcs
      have hkey := keyOf_str hOk.key
      have HX := HC x
      unfold Lo.v Lo.box Lo.cells at HX
      unfold str at HX c3 c4 c5 c9 hkey
      have hle := cntK_le h k x.key
      by_cases hx : x.counts = true
      · rw [hx] at HX hsucc
        have hw9 : IntKind.i64.wrap ((cntK h k x.key : Int) + 1) = (cntK h k x.key : Int) + 1 := by rw [IntKind.wrap_i64]; omega
        have hpl : plainElem (H := Unit) Try.prog 3 (.int .i64 ((cntK h k x.key : Int) + 1)) = some (.lit (.int .i64 ((cntK h k x.key : Int) + 1)), []) := plainElem_int Try.underlying3 (wf_i64 (by omega) (by omega))
        go_wp2_with (first
          | (go_at_call 16; refine (HX _).mono ?_; rintro e w1 ⟨rfl, rfl⟩)
          | (at_lookup; refine wpList_lookup_own_int _ rfl _ _ _ rfl 9 3 .i64 (Maps.string_keyed Try.underlying9) Try.underlying52 Try.underlying3 (zero3 _) w.heap.size k D rfl (((hM.alloc _).alloc _).alloc _) _ _ rfl hkey ?_; intro c hc hwc; rw [hC.at0] at hc; obtain rfl : (cntK h k x.key : Int) = c := (by simpa using hc))
          | (at_mapUpdate; refine wpList_mapUpdate_own _ rfl _ _ _ _ rfl 9 3 (Maps.string_keyed Try.underlying9) Try.underlying52 _ w.heap.size k D rfl (((hM.alloc _).alloc _).alloc _) (by unfold maxLen; omega) _ _ _ rfl rfl hkey _ [] hpl ?_; intro w1 hM1 hg1))
        go_roundw
        case rel =>
          refine ⟨k + 1, _, by simp, by omega, hM1, hC.put x.key ?_ (fun q hq => ?_), ?_, ?_⟩
          · rw [hsucc]; simp
          · rw [hsucc]; simp [Ne.symm hq]
          · have hb1 := ((hB.alloc (by omega) x.box).alloc (by simp; omega) x.box).alloc (by simp; omega) x.box
            unfold Lo.box Lo.cells str at hb1
            exact hb1.grown hg1 (by simp; omega) (fun q hq => by cases hq; exact Nat.le_refl _)
          · have := hg1.size; simp at this; omega
        case measure => simp [intOf]; omega
      · have hx' : x.counts = false := by simpa using hx
        rw [hx'] at HX hsucc
        go_wp2_with (go_at_call 16; refine (HX _).mono ?_; rintro e w1 ⟨rfl, rfl⟩)
        go_roundw
        case rel =>
          refine ⟨k + 1, D, by simp, by omega, ((hM.alloc _).alloc _).alloc _ |>.mono (by omega), ?_, ?_, by simp; omega⟩
          · rw [show cntK h (k + 1) = cntK h k from funext fun q => by rw [hsucc]; simp]; exact hC
          · exact ((hB.alloc (by omega) _).alloc (by simp; omega) _).alloc (by simp; omega) _
        case measure => simp [intOf]; omega
    · have : k = h.length := by omega
      subst this
      go_wp2
      go_ret
      exact ⟨_, D, rfl, hM, hC, Nat.le_refl _, hB⟩
end Go.Proofs.Ytbcnpdpdflkanaa
