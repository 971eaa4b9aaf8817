/-
  What is asked of a store without changing it: settled, Get, Len; what set does.
-/
import Derived.Test.YtglhjgfaelfleaaGreatSt
namespace Go.Proofs.YtglhjgfaelfleaaGreat
open Go.RowKit

set_option maxRecDepth 100000 in
set_option maxHeartbeats 2000000 in
theorem settled_any {w : World} {b mp ms : Nat} {K : KV} (h : St w b mp ms K) (cl sq : Int) (hc : 0 ≤ cl ∧ cl ≤ 4611686018427387904) :
    Calls Tryz.prog 38 #[.pointer (some ⟨b, 0, none⟩), .int .i64 cl, .int .i64 sq] w fun e w' =>
      e = .returned (match settled K.ss cl sq with | some r => .tuple #[r.v, .bool true] | none => .tuple #[rp0.v, .bool false]) ∧ Below w.heap.size w w' := by
  obtain ⟨c0, c1⟩ := h.cells
  have hl := fun o => (h.alloc o).lookS cl hc
  have hln := fun o1 o2 ty => ((h.alloc o1).alloc o2).lenS ty
  have hB : ∀ o1 o2, Below w.heap.size w ((w.alloc o1).alloc o2) := fun o1 o2 => ((Below.refl _ w).alloc (Nat.le_refl _) _).alloc (by simp) _
  have HB : Hid (∀ o1 o2, Below w.heap.size w ((w.alloc o1).alloc o2)) := hB
  have hf := h.ok.fewS
  have hb := h.lt.1
  unfold settled
  clear hB h
  cases hq : lookS cl K.ss with
  | none =>
    rw [hq] at hl
    simp only [svOf, Option.isSome] at hl
    clear hq
    by_cases h32 : 32 ≤ K.ss.length
    · simp only [if_pos h32, Rp.v, str]
      have h32' : (32 : Int) ≤ (K.ss.length : Int) := by omega
      go_enter Tryz.func38, Tryz.ntmps38
      go_wp2
      exact bodyPost_ret (v := .tuple #[.agg #[.int .i64 5, .string ⟨[].toArray⟩], .bool true]) (by simp [results, Tryz.results38, go_sem]) rfl ⟨rfl, HB.out _ _⟩
    · simp only [if_neg h32, Rp.v, str, rp0]
      have h32' : decide ((32 : Int) ≤ (K.ss.length : Int)) = false := by simp; omega
      go_enter Tryz.func38, Tryz.ntmps38
      go_wp2
      exact bodyPost_ret (v := .tuple #[.agg #[.int .i64 0, .string ⟨[].toArray⟩], .bool false]) (by simp [results, Tryz.results38, go_sem]) rfl ⟨rfl, HB.out _ _⟩
  | some s =>
    rw [hq] at hl
    simp only [svOf, Option.isSome] at hl
    clear hq
    obtain ⟨scl, ssq, scode, sval⟩ := s
    dsimp only at hl ⊢
    by_cases h1 : ssq < sq
    · simp only [if_pos h1, Rp.v, str, rp0]
      go_enter Tryz.func38, Tryz.ntmps38
      go_wp2
      exact bodyPost_ret (v := .tuple #[.agg #[.int .i64 0, .string ⟨[].toArray⟩], .bool false]) (by simp [results, Tryz.results38, go_sem]) rfl ⟨rfl, HB.out _ _⟩
    · simp only [if_neg h1]
      have h1' : decide (ssq < sq) = false := by simp; omega
      by_cases h2 : sq = ssq
      · subst h2
        simp only [if_true, Rp.v, str]
        go_enter Tryz.func38, Tryz.ntmps38
        go_wp2
        exact bodyPost_ret (v := .tuple #[.agg #[.int .i64 scode, .string ⟨sval.toArray⟩], .bool true]) (by simp [results, Tryz.results38, go_sem]) rfl ⟨rfl, HB.out _ _⟩
      · simp only [if_neg h2, Rp.v, str]
        have h2' : (sq == ssq) = false := by simp [h2]
        go_enter Tryz.func38, Tryz.ntmps38
        go_wp2
        exact bodyPost_ret (v := .tuple #[.agg #[.int .i64 4, .string ⟨[].toArray⟩], .bool true]) (by simp [results, Tryz.results38, go_sem]) rfl ⟨rfl, HB.out _ _⟩

/-- What Get tells. -/
def getF (K : KV) (k : Bs) : Rp := match lookP k K.ps with | none => ⟨2, []⟩ | some p => ⟨1, p.2⟩

set_option maxRecDepth 100000 in
set_option maxHeartbeats 2000000 in
theorem get_any {w : World} {b mp ms : Nat} {K : KV} (h : St w b mp ms K) (k : Bs) (hk : k.length ≤ 1099511627776) :
    Calls Tryz.prog 17 #[.pointer (some ⟨b, 0, none⟩), .string ⟨k.toArray⟩] w fun e w' => e = .returned (getF K k).v ∧ Below w.heap.size w w' := by
  obtain ⟨c0, c1⟩ := h.cells
  have hl := fun o => (h.alloc o).lookP k hk
  have hB : ∀ o1 o2, Below w.heap.size w ((w.alloc o1).alloc o2) := fun o1 o2 => ((Below.refl _ w).alloc (Nat.le_refl _) _).alloc (by simp) _
  have HB : Hid (∀ o1 o2, Below w.heap.size w ((w.alloc o1).alloc o2)) := hB
  have hb := h.lt.1
  unfold getF
  clear hB h
  cases hq : lookP k K.ps with
  | none =>
    rw [hq] at hl
    simp only [pvOf, Option.isSome] at hl
    clear hq
    simp only [Rp.v, str]
    go_enter Tryz.func17, Tryz.ntmps17
    go_wp2
    exact bodyPost_ret (v := .agg #[.int .i64 2, .string ⟨[].toArray⟩]) (by simp [results, Tryz.results17, go_sem]) rfl ⟨rfl, HB.out _ _⟩
  | some s =>
    rw [hq] at hl
    simp only [pvOf, Option.isSome] at hl
    clear hq
    obtain ⟨s1, s2⟩ := s
    dsimp only at hl ⊢
    simp only [Rp.v, str]
    go_enter Tryz.func17, Tryz.ntmps17
    go_wp2
    exact bodyPost_ret (v := .agg #[.int .i64 1, .string ⟨s2.toArray⟩]) (by simp [results, Tryz.results17, go_sem]) rfl ⟨rfl, HB.out _ _⟩

set_option maxRecDepth 100000 in
set_option maxHeartbeats 2000000 in
theorem len_any {w : World} {b mp ms : Nat} {K : KV} (h : St w b mp ms K) :
    Calls Tryz.prog 18 #[.pointer (some ⟨b, 0, none⟩)] w fun e w' => e = .returned (.int .i64 (K.ps.length : Int)) ∧ w' = w := by
  obtain ⟨c0, c1⟩ := h.cells
  have hl := fun ty => h.lenP ty
  clear h
  go_enter Tryz.func18, Tryz.ntmps18
  go_wp2
  go_ret
  exact ⟨rfl, rfl⟩

set_option maxRecDepth 100000 in
set_option maxHeartbeats 2000000 in
theorem set_any {w : World} {b mp ms : Nat} {K : KV} (h : St w b mp ms K) (k v : Bs) (hk : k.length ≤ 1099511627776) (hok : KV.Ok { K with ps := putK kP (k, v) K.ps }) :
    Calls Tryz.prog 46 #[.pointer (some ⟨b, 0, none⟩), .string ⟨k.toArray⟩, .string ⟨v.toArray⟩] w fun e w' => e = .returned (.agg #[.int .i64 1, .string ⟨[].toArray⟩]) ∧ St w' b mp ms { K with ps := putK kP (k, v) K.ps } ∧ Out (· = mp) w w' := by
  obtain ⟨c0, c1⟩ := h.cells
  have hb := h.lt.1
  obtain ⟨o, ho⟩ : ∃ o : Obj, o = .cells #[.int .i64 0, .string ⟨[].toArray⟩] 40 := ⟨_, rfl⟩
  obtain ⟨w1, hr, h1, hO, hz⟩ := (h.alloc o).putP k v hk hok
  have e1 : w1.heap[w.heap.size]? = some o := by
    rw [hO.block _ (by simp) (by have := h.lt.2.1; omega)]; exact heap_alloc_new w o
  subst ho
  have hc0 : w1.cell? ⟨w.heap.size, 0, none⟩ = some (.int .i64 0) := by simp only [World.cell?, e1]; rfl
  have hc1 : w1.cell? ⟨w.heap.size, 1, none⟩ = some (.string ⟨[].toArray⟩) := by simp only [World.cell?, e1]; rfl
  have hf0 : w1.frozen? ⟨w.heap.size, 0, none⟩ = false := by simp [World.frozen?, e1]
  have hf1 : w1.frozen? ⟨w.heap.size, 1, none⟩ = false := by simp [World.frozen?, e1]
  have HZ : Hid (w1.heap.size = w.heap.size + 1) := by rw [hz]; exact World.size_alloc ..
  have H1 : Hid (St w1 b mp ms { K with ps := putK kP (k, v) K.ps }) := h1
  have HO : Hid (Out (· = mp) w w1) := (Out.of_below (X := (· = mp)) ((Below.refl _ w).alloc (Nat.le_refl _) _)).trans hO (fun i hi _ => hi)
  have HN : Hid (∀ i, i = w.heap.size → ¬ i = b ∧ ¬ i = mp ∧ ¬ i = ms) := fun i hi => by have := h.lt; omega
  clear h hok h1 hO e1 hz
  go_enter Tryz.func46, Tryz.ntmps46
  go_wp2
  refine bodyPost_ret (v := .agg #[.int .i64 1, .string ⟨[].toArray⟩]) (by simp [results, Tryz.results46, go_sem, hc0, hc1]) rfl ⟨rfl, ?_, ?_⟩
  · have hw : Out (fun i => i = w.heap.size) w1 _ := (Out.set (X := fun i => i = w.heap.size) (w := w1) (b := w.heap.size) (o := 0) (u := .int .i64 1) rfl).put (o := 1) (u := .string ⟨[].toArray⟩) rfl
    exact H1.out.out hw (fun e => (HN.out _ e).1 rfl) (fun e => (HN.out _ e).2.1 rfl) (fun e => (HN.out _ e).2.2 rfl)
  · exact HO.out.trans (Y := fun i => i = w.heap.size) ((Out.set (X := fun i => i = w.heap.size) (w := w1) (b := w.heap.size) (o := 0) (u := .int .i64 1) rfl).put (o := 1) (u := .string ⟨[].toArray⟩) rfl) (fun i hi hl => by omega)
end Go.Proofs.YtglhjgfaelfleaaGreat
