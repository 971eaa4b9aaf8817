/-
  What an operation does; whether it counts; what is wrong with it.
-/
import Derived.Test.YtbcnpdpdflkanaaBas
namespace Go.Proofs.Ytbcnpdpdflkanaa
open Go.RowKit

set_option maxRecDepth 100000 in
theorem counts_any (x : Lo) (w : World) : Calls Try.prog 16 #[x.v] w fun e w' => e = .returned (.bool x.counts) ∧ w' = (w.alloc x.box).alloc x.box := by
  have HO := open_any x
  unfold Lo.v Lo.box Lo.cells at *
  unfold Lo.counts
  generalize str x.key = s1 at *
  generalize str x.val = s2 at *
  generalize str x.old = s3 at *
  generalize str x.rp.val = s4 at *
  by_cases hb : x.back = 0
  · have e0 : decide (x.back = 0) = true := by simpa using hb
    rw [if_pos hb]
    clear hb
    go_enter Try.func16, Try.ntmps16
    go_wp2_with (go_at_call 33; refine (HO _).mono ?_; rintro e w1 ⟨rfl, rfl⟩; rw [e0])
    go_ret
    exact ⟨by first | rfl | (simp [bne]; rfl), rfl⟩
  · have e0 : decide (x.back = 0) = false := by simpa using hb
    rw [if_neg hb]
    clear hb
    go_enter Try.func16, Try.ntmps16
    go_wp2_with (go_at_call 33; refine (HO _).mono ?_; rintro e w1 ⟨rfl, rfl⟩; rw [e0])
    all_goals go_ret
    all_goals exact ⟨by simp_all, rfl⟩

theorem cells2 {w : World} {b : Nat} {t : TypeId} {v0 v1 : Value} (h : w.heap[b]? = some (.cells #[v0, v1] t (0, 0))) : w.cell? ⟨b, 0, none⟩ = some v0 ∧ w.cell? ⟨b, 1, none⟩ = some v1 := by
  refine ⟨?_, ?_⟩
  all_goals (simp only [World.cell?, h]; rfl)

theorem results_S {fn : Func} {a b c : Tmp} (h : fn.results = #[.tmp a, .tmp b, .cell c 33]) (tmps : Array Value) (w : World) (B : Nat) {x0 x1 ya yb : Value} (ha : tmps.getD a undef = ya) (hb : tmps.getD b undef = yb) (hc : tmps.getD c undef = .pointer (some ⟨B, 0, none⟩)) (hB : w.heap[B]? = some (.cells #[x0, x1] 33 (0, 0))) :
    (results fn tmps).run Try.prog w = .ok (.tuple #[ya, yb, .agg #[x0, x1]]) w := by
  obtain ⟨c0, c1⟩ := cells2 hB
  have hc' : tmps[c]?.getD undef = .pointer (some ⟨B, 0, none⟩) := by rw [← Array.getD_eq_getD_getElem?]; exact hc
  have ha' : tmps[a]?.getD undef = ya := by rw [← Array.getD_eq_getD_getElem?]; exact ha
  have hb' : tmps[b]?.getD undef = yb := by rw [← Array.getD_eq_getD_getElem?]; exact hb
  simp [results, h, ha', hb', hc', asAddr, loadVar, c0, c1, go_sem]

theorem below2 (w : World) (o1 o2 : Obj) : Below w.heap.size w ((w.alloc o1).alloc o2) := ((Below.refl _ w).alloc (Nat.le_refl _) _).alloc (by simp) _
theorem heap2 (w : World) (o1 o2 : Obj) : ((w.alloc o1).alloc o2).heap[w.heap.size + 1]? = some o2 := by have := heap_alloc_new (w.alloc o1) o2; simpa using this

/-- What a step answers, as a value. -/
def stV (r : Bool × Bs × Rp) : Value := .tuple #[.bool r.1, str r.2.1, r.2.2.v]
theorem str0 : str [] = .string ⟨#[]⟩ := rfl
theorem kinds (k : Int) : k = 1 ∨ k = 2 ∨ k = 3 ∨ k = 4 ∨ ((k == 1) = false ∧ (k == 2) = false ∧ (k == 3) = false ∧ (k == 4) = false) := by
  by_cases h1 : k = 1
  · exact .inl h1
  by_cases h2 : k = 2
  · exact .inr (.inl h2)
  by_cases h3 : k = 3
  · exact .inr (.inr (.inl h3))
  by_cases h4 : k = 4
  · exact .inr (.inr (.inr (.inl h4)))
  · exact .inr (.inr (.inr (.inr (by simp [h1, h2, h3, h4]))))

set_option maxRecDepth 100000 in
theorem stepNone_any (x : Lo) (w : World) : Calls Try.prog 35 #[x.v] w fun e w' => e = .returned (stV (step false [] x)) ∧ Below w.heap.size w w' := by
  obtain ⟨cl, sq, kind, key, val, old, call, back, rp⟩ := x
  unfold Lo.v
  rcases kinds kind with rfl | rfl | rfl | rfl | ⟨e1, e2, e3, e4⟩
  · rw [show step false [] ⟨cl, sq, 1, key, val, old, call, back, rp⟩ = (false, [], ⟨2, []⟩) from rfl]
    unfold stV Rp.v
    dsimp only
    try rw [str0]
    simp only [str]
    generalize (⟨key.toArray⟩ : ByteArray) = s1; generalize (⟨val.toArray⟩ : ByteArray) = s2; generalize (⟨rp.val.toArray⟩ : ByteArray) = s4
    generalize (⟨old.toArray⟩ : ByteArray) = s3
    go_enter Try.func35, Try.ntmps35
    go_wp2
    exact bodyPost_ret (results_S rfl _ _ (w.heap.size + 1) rfl rfl rfl (by exact heap2 _ _ _)) rfl ⟨rfl, below2 _ _ _⟩
  · rw [show step false [] ⟨cl, sq, 2, key, val, old, call, back, rp⟩ = (true, val, ⟨1, []⟩) from rfl]
    unfold stV Rp.v
    dsimp only
    try rw [str0]
    simp only [str]
    generalize (⟨key.toArray⟩ : ByteArray) = s1; generalize (⟨val.toArray⟩ : ByteArray) = s2; generalize (⟨rp.val.toArray⟩ : ByteArray) = s4
    generalize (⟨old.toArray⟩ : ByteArray) = s3
    go_enter Try.func35, Try.ntmps35
    go_wp2
    go_region
    go_wp2
    exact bodyPost_ret (results_S rfl _ _ (w.heap.size + 1) rfl rfl rfl (by exact heap2 _ _ _)) rfl ⟨rfl, Below.drew (below2 _ _ _)⟩
  · rw [show step false [] ⟨cl, sq, 3, key, val, old, call, back, rp⟩ = (false, [], ⟨2, []⟩) from rfl]
    unfold stV Rp.v
    dsimp only
    try rw [str0]
    simp only [str]
    generalize (⟨key.toArray⟩ : ByteArray) = s1; generalize (⟨val.toArray⟩ : ByteArray) = s2; generalize (⟨rp.val.toArray⟩ : ByteArray) = s4
    generalize (⟨old.toArray⟩ : ByteArray) = s3
    go_enter Try.func35, Try.ntmps35
    go_wp2
    exact bodyPost_ret (results_S rfl _ _ (w.heap.size + 1) rfl rfl rfl (by exact heap2 _ _ _)) rfl ⟨rfl, below2 _ _ _⟩
  · rw [show step false [] ⟨cl, sq, 4, key, val, old, call, back, rp⟩ = (false, [], ⟨2, []⟩) from rfl]
    unfold stV Rp.v
    dsimp only
    try rw [str0]
    simp only [str]
    generalize (⟨key.toArray⟩ : ByteArray) = s1; generalize (⟨val.toArray⟩ : ByteArray) = s2; generalize (⟨rp.val.toArray⟩ : ByteArray) = s4
    generalize (⟨old.toArray⟩ : ByteArray) = s3
    go_enter Try.func35, Try.ntmps35
    go_wp2
    exact bodyPost_ret (results_S rfl _ _ (w.heap.size + 1) rfl rfl rfl (by exact heap2 _ _ _)) rfl ⟨rfl, below2 _ _ _⟩
  · rw [show step false [] ⟨cl, sq, kind, key, val, old, call, back, rp⟩ = (false, [], ⟨0, []⟩) from by simp [step, ne_of_beq_false e1, ne_of_beq_false e2, ne_of_beq_false e3, ne_of_beq_false e4]]
    unfold stV Rp.v
    dsimp only
    try rw [str0]
    simp only [str]
    generalize (⟨key.toArray⟩ : ByteArray) = s1; generalize (⟨val.toArray⟩ : ByteArray) = s2; generalize (⟨rp.val.toArray⟩ : ByteArray) = s4
    generalize (⟨old.toArray⟩ : ByteArray) = s3
    go_enter Try.func35, Try.ntmps35
    go_wp2
    exact bodyPost_ret (results_S rfl _ _ (w.heap.size + 1) rfl rfl rfl (by exact heap2 _ _ _)) rfl ⟨rfl, below2 _ _ _⟩

theorem step_no (v : Bs) (x : Lo) : step false v x = step false [] x := by unfold step; simp

set_option maxRecDepth 100000 in
theorem stepSome_any (v : Bs) (x : Lo) (w : World) : Calls Try.prog 24 #[.bool true, str v, x.v] w fun e w' => e = .returned (stV (step true v x)) ∧ Below w.heap.size w w' := by
  obtain ⟨cl, sq, kind, key, val, old, call, back, rp⟩ := x
  unfold Lo.v
  rcases kinds kind with rfl | rfl | rfl | rfl | ⟨e1, e2, e3, e4⟩
  · rw [show step true v ⟨cl, sq, 1, key, val, old, call, back, rp⟩ = (true, v, ⟨1, v⟩) from rfl]
    unfold stV Rp.v
    dsimp only
    try rw [str0]
    simp only [str]
    generalize (⟨key.toArray⟩ : ByteArray) = s1; generalize (⟨val.toArray⟩ : ByteArray) = s2; generalize (⟨rp.val.toArray⟩ : ByteArray) = s4
    generalize (⟨old.toArray⟩ : ByteArray) = s3
    generalize (⟨v.toArray⟩ : ByteArray) = sv
    go_enter Try.func24, Try.ntmps24
    go_wp2
    exact bodyPost_ret (results_S rfl _ _ (w.heap.size + 1) rfl rfl rfl (by exact heap2 _ _ _)) rfl ⟨rfl, below2 _ _ _⟩
  · rw [show step true v ⟨cl, sq, 2, key, val, old, call, back, rp⟩ = (true, val, ⟨1, []⟩) from rfl]
    unfold stV Rp.v
    dsimp only
    try rw [str0]
    simp only [str]
    generalize (⟨key.toArray⟩ : ByteArray) = s1; generalize (⟨val.toArray⟩ : ByteArray) = s2; generalize (⟨rp.val.toArray⟩ : ByteArray) = s4
    generalize (⟨old.toArray⟩ : ByteArray) = s3
    generalize (⟨v.toArray⟩ : ByteArray) = sv
    go_enter Try.func24, Try.ntmps24
    go_wp2
    go_region
    go_wp2
    exact bodyPost_ret (results_S rfl _ _ (w.heap.size + 1) rfl rfl rfl (by exact heap2 _ _ _)) rfl ⟨rfl, Below.drew (below2 _ _ _)⟩
  · rw [show step true v ⟨cl, sq, 3, key, val, old, call, back, rp⟩ = (false, [], ⟨1, []⟩) from rfl]
    unfold stV Rp.v
    dsimp only
    try rw [str0]
    simp only [str]
    generalize (⟨key.toArray⟩ : ByteArray) = s1; generalize (⟨val.toArray⟩ : ByteArray) = s2; generalize (⟨rp.val.toArray⟩ : ByteArray) = s4
    generalize (⟨old.toArray⟩ : ByteArray) = s3
    generalize (⟨v.toArray⟩ : ByteArray) = sv
    go_enter Try.func24, Try.ntmps24
    go_wp2
    exact bodyPost_ret (results_S rfl _ _ (w.heap.size + 1) rfl rfl rfl (by exact heap2 _ _ _)) rfl ⟨rfl, below2 _ _ _⟩
  · by_cases hv : v = old
    · subst hv
      rw [show step true v ⟨cl, sq, 4, key, val, v, call, back, rp⟩ = (true, val, ⟨1, []⟩) from by simp [step]]
      unfold stV Rp.v
      dsimp only
      try rw [str0]
      simp only [str]
      generalize (⟨key.toArray⟩ : ByteArray) = s1; generalize (⟨val.toArray⟩ : ByteArray) = s2; generalize (⟨rp.val.toArray⟩ : ByteArray) = s4
      go_enter Try.func24, Try.ntmps24
      go_wp2
      go_region
      go_wp2
      exact bodyPost_ret (results_S rfl _ _ (w.heap.size + 1) rfl rfl rfl (by exact heap2 _ _ _)) rfl ⟨rfl, Below.drew (below2 _ _ _)⟩
    · rw [show step true v ⟨cl, sq, 4, key, val, old, call, back, rp⟩ = (true, v, ⟨3, v⟩) from by simp [step, hv]]
      unfold stV Rp.v
      dsimp only
      simp only [str]
      generalize (⟨key.toArray⟩ : ByteArray) = s1; generalize (⟨val.toArray⟩ : ByteArray) = s2; generalize (⟨rp.val.toArray⟩ : ByteArray) = s4
      have hq : (v == old) = false := by simpa using hv
      go_enter Try.func24, Try.ntmps24
      go_wp2
      exact bodyPost_ret (results_S rfl _ _ (w.heap.size + 1) rfl rfl rfl (by exact heap2 _ _ _)) rfl ⟨rfl, below2 _ _ _⟩
  · rw [show step true v ⟨cl, sq, kind, key, val, old, call, back, rp⟩ = (true, v, ⟨0, []⟩) from by simp [step, ne_of_beq_false e1, ne_of_beq_false e2, ne_of_beq_false e3, ne_of_beq_false e4]]
    unfold stV Rp.v
    dsimp only
    try rw [str0]
    simp only [str]
    generalize (⟨key.toArray⟩ : ByteArray) = s1; generalize (⟨val.toArray⟩ : ByteArray) = s2; generalize (⟨rp.val.toArray⟩ : ByteArray) = s4
    generalize (⟨old.toArray⟩ : ByteArray) = s3
    generalize (⟨v.toArray⟩ : ByteArray) = sv
    go_enter Try.func24, Try.ntmps24
    go_wp2
    exact bodyPost_ret (results_S rfl _ _ (w.heap.size + 1) rfl rfl rfl (by exact heap2 _ _ _)) rfl ⟨rfl, below2 _ _ _⟩

set_option maxRecDepth 100000 in
theorem stepFalse_any (v : Bs) (x : Lo) (w : World) : Calls Try.prog 24 #[.bool false, str v, x.v] w fun e w' => e = .returned (stV (step false v x)) ∧ Below w.heap.size w w' := by
  have HN := stepNone_any x
  rw [step_no]
  obtain ⟨cl, sq, kind, key, val, old, call, back, rp⟩ := x
  generalize step false [] _ = r at *
  obtain ⟨r1, r2, r3, r4⟩ := r
  unfold Lo.v at *
  unfold stV Rp.v at *
  dsimp only at *
  simp only [str] at *
  generalize (⟨key.toArray⟩ : ByteArray) = s1 at *; generalize (⟨val.toArray⟩ : ByteArray) = s2 at *; generalize (⟨old.toArray⟩ : ByteArray) = s3 at *; generalize (⟨rp.val.toArray⟩ : ByteArray) = s4 at *; generalize (⟨v.toArray⟩ : ByteArray) = sv; generalize (⟨r2.toArray⟩ : ByteArray) = q2 at *; generalize (⟨r4.toArray⟩ : ByteArray) = q4 at *
  go_enter Try.func24, Try.ntmps24
  go_wp2_with (go_at_call 35; refine (HN _).mono ?_; rintro e w1 ⟨rfl, hB⟩; have hh := (hB.block (w.heap.size + 1) (by simp)).trans (heap2 _ _ _); have hc0 := (cells2 hh).1; have hc1 := (cells2 hh).2; have hf0 : ∀ o, w1.frozen? ⟨w.heap.size + 1, o, none⟩ = false := (fun o => by simp [World.frozen?, hh]))
  exact bodyPost_ret (results_S rfl _ _ (w.heap.size + 1) rfl rfl rfl (heap_set (heap_set hh 0 _) 1 _)) rfl ⟨rfl, (((below2 _ _ _).trans (hB.mono (by simp; omega))).setCell (by simp) _).setCell (by simp) _⟩

theorem step_any (th : Bool) (v : Bs) (x : Lo) (w : World) : Calls Try.prog 24 #[.bool th, str v, x.v] w fun e w' => e = .returned (stV (step th v x)) ∧ Below w.heap.size w w' := by
  cases th
  · exact stepFalse_any v x w
  · exact stepSome_any v x w
end Go.Proofs.Ytbcnpdpdflkanaa
