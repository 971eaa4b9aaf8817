/-
  The lines that there are: the walk.
-/
import Derived.Test.YtbckogojnjmjcaaGreatDoorFo
namespace Go.Proofs.YtbckogojnjmjcaaGreatDoor
open Go.RowKit Go.Shelf
theorem upon_run {P : Program} {o : Oper} {a : Act} {next : Act → World → Prop} {Q : Exit → Act → World → Prop} {r : Result Next} {v : Value} {W' : World} (h : r = .ok (.value v) W') (k : next (a.put o.dst v) W') : Oper.upon P o a next Q r := by rw [h]; exact k
theorem fold_size (l : List Obj) (w : World) : (l.foldl World.alloc w).heap.size = w.heap.size + l.length := by
  induction l generalizing w with
  | nil => rfl
  | cons o l ih => rw [List.foldl_cons, ih]; simp; omega
theorem fold_below (l : List Obj) (w : World) : Below w.heap.size w (l.foldl World.alloc w) := by
  induction l generalizing w with
  | nil => exact Below.refl _ _
  | cons o l ih => exact ((Below.refl _ w).alloc (Nat.le_refl _) o).trans ((ih (w.alloc o)).mono (by simp))
theorem fold_get (l : List Obj) (w : World) (i : Nat) (o : Obj) (h : l[i]? = some o) : (l.foldl World.alloc w).heap[w.heap.size + i]? = some o := by
  induction l generalizing w i with
  | nil => cases h
  | cons o' l ih =>
    cases i with
    | zero =>
      simp only [List.getElem?_cons_zero, Option.some.injEq] at h
      subst h
      rw [List.foldl_cons, Nat.add_zero, (fold_below l (w.alloc o')).block _ (by simp)]
      exact heap_alloc_new _ _
    | succ i =>
      have := ih (w.alloc o') i (by simpa using h)
      rw [World.size_alloc] at this
      rw [List.foldl_cons, ← this]
      congr 1; omega
/-- The blocks ahead of the lines. -/
def ahead : List Obj := ([.node, .client, .n, .m, .pick, .key, .val, .old] : List Pc).map (fun p => Obj.cells p.fns.toArray 113) ++ formsL.map (fun f => Obj.cells f.plc 113)
set_option maxRecDepth 100000 in
set_option maxHeartbeats 8000000 in
theorem forms_any (w : World) : Calls Tryz.prog 71 #[] w fun e w' => e = .returned (.slice (some ⟨w.heap.size + 28, 0, none⟩) 20 20) ∧ FoAt w.heap.size w' ∧ Below w.heap.size w w' := by
  have hs1 : ∀ (a : Addr) (W : World) (f : Nat), (store a (.func (.func f) #[] #[])).run Tryz.prog W = stored Tryz.prog W a (.func (.func f) #[] #[]) .plain := fun a W f => run_store _ _ _ _ _ rfl
  have hs2 : ∀ (a : Addr) (W : World), (store a .nilFunc).run Tryz.prog W = stored Tryz.prog W a .nilFunc .plain := fun a W => run_store _ _ _ _ _ rfl
  go_enter Tryz.func71, Tryz.ntmps71
  go_wp2
  unfold Oper.wp execOp
  generalize hW : World.alloc _ _ = W28
  have HM : Hid (W28 = ahead.foldl World.alloc w) := by
    show W28 = _
    rw [← hW]
    kernel_rfl
  have hsz : W28.heap.size = w.heap.size + 28 := by rw [HM.out, fold_size]; rfl
  clear hW
  refine upon_run (v := .slice (some ⟨W28.heap.size, 0, none⟩) 20 20) (W' := W28.alloc (.cells (formsC w.heap.size) 107)) (by kernel_rfl) ?_
  go_wp2
  go_ret
  refine ⟨by rw [← hsz]; rfl, ⟨?_, ?_⟩, ?_⟩
  · rw [← hsz]
    exact heap_alloc_new _ _
  · intro i f hf
    have hi : i < 20 := (List.getElem?_eq_some_iff.1 hf).1
    rw [Below.heap_alloc _ _ _ (by omega), Nat.add_assoc]
    rw [HM.out]
    refine fold_get _ _ (8 + i) _ ?_
    unfold ahead
    rw [List.getElem?_append_right (by simp), List.getElem?_map]
    simp [hf]
  · have := fold_below ahead w
    rw [← HM.out] at this
    exact this.alloc (by omega) _
end Go.Proofs.YtbckogojnjmjcaaGreatDoor
