/-
  Words for numbers.
-/
import Derived.Test.YtbckogojnjmjcaaGreatDoorA9
import Derived.Test.YtbckogojnjmjcaaGreatDoorB1
import Derived.Test.YtbckogojnjmjcaaGreatDoorPb
namespace Go.Proofs.YtbckogojnjmjcaaGreatDoor
open Go.RowKit Go.Shelf

set_option maxRecDepth 100000 in
theorem picks_any (w : World) : Calls Tryz.prog 72 #[] w fun e w' => e = .returned (.agg #[.int .i64 1, .slice (some ⟨w.heap.size + 1, 0, none⟩) 9 9]) ∧ w'.heap[w.heap.size + 1]? = some (.cells (picksL.map str).toArray 9) ∧ Below w.heap.size w w' := by
  go_enter Tryz.func72, Tryz.ntmps72
  go_wp2
  refine bodyPost_ret (v := .agg #[.int .i64 1, .slice (some ⟨w.heap.size + 1, 0, none⟩) 9 9]) (by simp [results, Tryz.results72, go_sem]) rfl ⟨rfl, ?_, ?_⟩
  · have h := fun o1 o2 => heap_alloc_new (w.alloc o1) o2
    simp only [World.size_alloc] at h
    exact h _ _
  · exact ((Below.refl _ _).alloc (Nat.le_refl _) _).alloc (by simp) _
theorem idx_from (zs : List Bs) (x : Bs) (k : Nat) : Lib.idxFromS (zs.map fun y => (⟨y.toArray⟩ : ByteArray)) ⟨x.toArray⟩ k = match idxOfL zs x with | none => -1 | some i => ((k + i : Nat) : Int) := by
  induction zs generalizing k with
  | nil => rfl
  | cons z zs ih =>
    by_cases h : z = x
    · subst h
      simp [Lib.idxFromS, idxOfL]
    · have h' : ¬ (⟨z.toArray⟩ : ByteArray) = ⟨x.toArray⟩ := fun e => h (by injection e with e; simpa using e)
      rw [List.map_cons, Lib.idxFromS, if_neg h', ih, idxOfL, if_neg h]
      cases idxOfL zs x with
      | none => rfl
      | some i => simp only [Option.map_some]; congr 1; omega
/-- Words that stand in a block, read by their numbers. -/
def StrAt (W : World) (g : Nat) (l : List Bs) : Prop := ∀ j, j < l.length → W.cell? ⟨g, j, none⟩ = some (.string ⟨(l.getD j []).toArray⟩)
theorem StrAt.of {W : World} {g : Nat} {l : List Bs} {t : TypeId} (h : W.heap[g]? = some (.cells (l.map str).toArray t)) : StrAt W g l := by
  intro j hj
  simp only [World.cell?, h]
  simp [hj, str]
theorem StrAt.below {W W' : World} {g : Nat} {l : List Bs} (h : StrAt W g l) (hg : g < W.heap.size) (hB : Below W.heap.size W W') : StrAt W' g l := fun j hj => (hB.cell (p := ⟨g, j, none⟩) hg).trans (h j hj)
theorem picks_at (w : World) : Calls Tryz.prog 72 #[] w fun e w' => ∃ g, e = .returned (.agg #[.int .i64 1, .slice (some ⟨g, 0, none⟩) 9 9]) ∧ g < w'.heap.size ∧ StrAt w' g picksL ∧ Below w.heap.size w w' :=
  (picks_any w).mono fun _ _ ⟨h1, h2, h3⟩ => ⟨_, h1, (Array.getElem?_eq_some_iff.1 h2).1, StrAt.of h2, h3⟩
def NwR (f : Int) (l : List Bs) (s : Bs) (e : Ending) : Prop := match idxOfL l s with
  | none => e = .returned (.tuple #[.int .i64 0, .bool false])
  | some i => e = .returned (.tuple #[.int .i64 (f + (i : Int)), .bool true])
theorem names_number (W : World) (f : Int) (hf : 0 ≤ f ∧ f ≤ 100) (g c : Nat) (ws : List Bs) (hw : ws.length ≤ 100) (hg : g < W.heap.size) (hc : StrAt W g ws) (s : Bs) :
    Calls Tryz.prog 73 #[.agg #[.int .i64 f, .slice (some ⟨g, 0, none⟩) ws.length c], str s] W fun e w' => NwR f ws s e ∧ Below W.heap.size W w' := by
  have HB : Hid (∀ o, Below W.heap.size W (W.alloc o)) := fun o => (Below.refl _ _).alloc (Nat.le_refl _) _
  have HI : ∀ o, Calls Tryz.prog 98 #[.slice (some ⟨g, 0, none⟩) ws.length c, .string ⟨s.toArray⟩] (W.alloc o) fun e w' => e = .returned (.int .i64 (Lib.idxFromS (ws.map fun y => (⟨y.toArray⟩ : ByteArray)) ⟨s.toArray⟩ 0)) ∧ w' = W.alloc o := fun o => by
    have k := Any.slices_Index_string Tryz.laysIdx g 0 ws.length c (ws.map fun y => (⟨y.toArray⟩ : ByteArray)) ⟨s.toArray⟩ (W.alloc o) (by simp) (by omega) (fun j hj => by
      have hj' : j < ws.length := by simpa using hj
      rw [Nat.zero_add, (hc.below hg (HB.out o)) j hj']
      simp [hj'])
    rw [fIdx, List.take_of_length_le (by simp)] at k
    exact k
  simp only [idx_from] at HI
  unfold str NwR
  cases hi : idxOfL ws s with
  | none =>
    simp only [hi] at HI
    clear hc
    go_enter Tryz.func73, Tryz.ntmps73
    go_wp2_with (go_at_call 98; refine (HI _).mono ?_; rintro e w1 ⟨rfl, hw⟩; subst w1)
    go_ret2
    exact ⟨rfl, HB.out _⟩
  | some i =>
    simp only [hi, Nat.zero_add] at HI
    have hi' := (idxOfL_lt hi).1
    clear hc hi
    go_enter Tryz.func73, Tryz.ntmps73
    go_wp2_with (go_at_call 98; refine (HI _).mono ?_; rintro e w1 ⟨rfl, hw⟩; subst w1)
    go_ret2
    exact ⟨rfl, HB.out _⟩
def hasB (f : Int) (n : Nat) (k : Int) : Bool := decide (f ≤ k) && decide (k < f + n)
theorem names_has (W : World) (f : Int) (hf : 0 ≤ f ∧ f ≤ 100) (a : Option Addr) (n c : Nat) (hn : n ≤ 100) (k : Int) :
    Calls Tryz.prog 77 #[.agg #[.int .i64 f, .slice a n c], .int .i64 k] W fun e w' => e = .returned (.bool (hasB f n k)) ∧ Below W.heap.size W w' := by
  have HB : Hid (∀ o, Below W.heap.size W (W.alloc o)) := fun o => (Below.refl _ _).alloc (Nat.le_refl _) _
  unfold hasB
  cases h1 : decide (f ≤ k) <;> cases h2 : decide (k < f + n)
  all_goals (
    go_enter Tryz.func77, Tryz.ntmps77
    go_wp2
    go_ret
    exact ⟨rfl, HB.out _⟩)
theorem box_cell {w w1 : World} {cs : Array Value} {t : TypeId} (hB : Below (w.alloc (.cells cs t)).heap.size (w.alloc (.cells cs t)) w1) (j : Nat) : w1.cell? ⟨w.heap.size, j, none⟩ = cs[j]? := by
  rw [hB.cell (p := ⟨w.heap.size, j, none⟩) (by simp)]
  have := heap_alloc_new w (.cells cs t)
  simp only [World.cell?, this]
  rfl
theorem names_word (W : World) (f : Int) (hf : 0 ≤ f ∧ f ≤ 100) (g c : Nat) (ws : List Bs) (hw : ws.length ≤ 100) (hg : g < W.heap.size) (hc : StrAt W g ws) (k : Int) :
    Calls Tryz.prog 63 #[.agg #[.int .i64 f, .slice (some ⟨g, 0, none⟩) ws.length c], .int .i64 k] W fun e w' => e = .returned (str (wordOf f ws k)) ∧ Below W.heap.size W w' := by
  have HB : Hid (∀ o w', Below (W.alloc o).heap.size (W.alloc o) w' → Below W.heap.size W w') := fun o w' h => ((Below.refl _ _).alloc (Nat.le_refl _) o).trans (h.mono (by simp))
  have HH := fun W => names_has W f hf (some ⟨g, 0, none⟩) ws.length c hw k
  unfold wordOf str
  cases hb : hasB f ws.length k with
  | false =>
    have hb' : ¬ (f ≤ k ∧ k < f + ws.length) := by unfold hasB at hb; simpa using hb
    rw [if_neg hb']
    rw [hb] at HH
    clear hb hb' hc
    go_enter Tryz.func63, Tryz.ntmps63
    go_wp2_with (go_at_call 77; refine (HH _).mono ?_; rintro e w1 ⟨rfl, hB1⟩)
    go_ret
    exact ⟨rfl, HB.out _ _ hB1⟩
  | true =>
    have hb' : f ≤ k ∧ k < f + ws.length := by unfold hasB at hb; simpa using hb
    rw [if_pos hb']
    rw [hb] at HH
    obtain ⟨j, hj⟩ : ∃ j : Nat, k = f + (j : Int) := ⟨(k - f).toNat, by omega⟩
    subst hj
    have hjl : j < ws.length := by omega
    have hjj : (f + (j : Int) - f).toNat = j := by omega
    rw [hjj]
    have HC : Hid (∀ o w', Below (W.alloc o).heap.size (W.alloc o) w' → w'.cell? ⟨g, j, none⟩ = some (.string ⟨(ws.getD j []).toArray⟩)) := fun o w' h => ((HB.out o w' h).cell (p := ⟨g, j, none⟩) hg).trans (hc j hjl)
    have hsub : f + (j : Int) - f = (j : Int) := by omega
    generalize ws.getD j [] = s at *
    generalize ws.length = n at *
    clear hb hb' hc hjj
    go_enter Tryz.func63, Tryz.ntmps63
    go_wp2_with fail
    refine (HH _).mono ?_
    rintro e w1 ⟨rfl, hB1⟩
    have hcell := HC.out _ _ hB1
    have hb0 : w1.cell? ⟨W.heap.size, 0, none⟩ = some (.int .i64 f) := box_cell hB1 0
    have hb1 : w1.cell? ⟨W.heap.size, 1, none⟩ = some (.slice (some ⟨g, 0, none⟩) n c) := box_cell hB1 1
    have HB1 : Hid (Below W.heap.size W w1) := HB.out _ _ hB1
    go_wp2
    go_ret
    exact ⟨rfl, HB1.out⟩
end Go.Proofs.YtbckogojnjmjcaaGreatDoor
