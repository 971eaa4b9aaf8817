/-
  The two comparisons, and the two sorts.
-/
import Derived.Test.YtglhjgfaelfleaaGreatRk
import Derived.WideShapes
namespace Go.Proofs.YtglhjgfaelfleaaGreat
open Go.RowKit Go.Shelf Go.Sort

theorem bytesLess_before : ∀ (a b : Bs), Op.bytesLess a b = bytesBefore a b
  | _, [] => by cases ‹List UInt8› <;> rfl
  | [], _ :: _ => rfl
  | a :: x, b :: y => by simp only [Op.bytesLess, bytesBefore, bytesLess_before x y]
def cfS (a b : Bs) : Int := if bytesBefore a b then -1 else if a = b then 0 else 1
def cfI (a b : Int) : Int := if a < b then -1 else if b < a then 1 else 0
theorem lt_cfS (x y : Bs × Bs) : ltOf (fun x y : Bs × Bs => cfS x.1 y.1) x y = (kP x).before (kP y) := by
  show decide ((if bytesBefore x.1 y.1 = true then (-1 : Int) else if x.1 = y.1 then 0 else 1) < 0) = bytesBefore x.1 y.1
  generalize bytesBefore x.1 y.1 = t
  by_cases h2 : x.1 = y.1 <;> cases t <;> simp [h2]
theorem lt_cfI (x y : Se) : ltOf (fun x y : Se => cfI x.cl y.cl) x y = (kS x).before (kS y) := by
  unfold ltOf cfI kS Lit.before
  by_cases h : x.cl < y.cl
  · simp [h]
  · by_cases h2 : y.cl < x.cl <;> simp [h, h2]
theorem swoS : SWO (ltOf fun x y : Bs × Bs => cfS x.1 y.1) where
  irrefl x := by rw [lt_cfS]; exact WideAt.bytes_irrefl _
  trans x y z h1 h2 := by rw [lt_cfS] at *; exact WideShapes.bytes_trans _ _ _ h1 h2
  ntrans x y z h1 h2 := by
    rw [lt_cfS] at *
    cases h : (kP x).before (kP z)
    · rfl
    · exfalso
      have h' : bytesBefore x.1 z.1 = true := h
      have h1' : bytesBefore x.1 y.1 = false := h1
      have h2' : bytesBefore y.1 z.1 = false := h2
      by_cases e : x.1 = y.1
      · rw [e, h2'] at h'; cases h'
      · rcases WideAt.bytes_total _ _ e with g | g
        · rw [h1'] at g; cases g
        · rw [WideShapes.bytes_trans _ _ _ g h'] at h2'; cases h2'
theorem swoI : SWO (ltOf fun x y : Se => cfI x.cl y.cl) where
  irrefl x := by rw [lt_cfI]; simp [kS, Lit.before]
  trans x y z h1 h2 := by rw [lt_cfI] at *; simp [kS, Lit.before] at *; omega
  ntrans x y z h1 h2 := by rw [lt_cfI] at *; simp [kS, Lit.before] at *; omega

set_option maxHeartbeats 1000000 in
theorem isNaNI (x : Int) (w : World) : Calls Tryz.prog 82 #[.int .i64 x] w fun e w' => e = .returned (.bool false) ∧ w' = w := by
  go_enter Tryz.func82, Tryz.ntmps82
  go_wp2
  go_ret
  exact ⟨by simp, rfl⟩
set_option maxHeartbeats 1000000 in
theorem isNaNS (x : Bs) (w : World) : Calls Tryz.prog 108 #[.string ⟨x.toArray⟩] w fun e w' => e = .returned (.bool false) ∧ w' = w := by
  go_enter Tryz.func108, Tryz.ntmps108
  go_wp2
  go_ret
  exact ⟨by simp, rfl⟩
set_option maxHeartbeats 1000000 in
theorem compareI (x y : Int) (w : World) : Calls Tryz.prog 58 #[.int .i64 x, .int .i64 y] w fun e w' => e = .returned (.int .i64 (cfI x y)) ∧ w' = w := by
  unfold cfI
  by_cases h1 : x < y
  · rw [if_pos h1]
    go_enter Tryz.func58, Tryz.ntmps58
    go_wp2_with (go_at_call 82; refine (isNaNI _ _).mono ?_; rintro e w' ⟨rfl, rfl⟩)
    go_ret
    exact ⟨rfl, rfl⟩
  · rw [if_neg h1]
    have h1' : decide (x < y) = false := by simp; omega
    by_cases h2 : y < x
    · rw [if_pos h2]
      go_enter Tryz.func58, Tryz.ntmps58
      go_wp2_with (go_at_call 82; refine (isNaNI _ _).mono ?_; rintro e w' ⟨rfl, rfl⟩)
      go_ret
      exact ⟨rfl, rfl⟩
    · rw [if_neg h2]
      have h2' : decide (y < x) = false := by simp; omega
      go_enter Tryz.func58, Tryz.ntmps58
      go_wp2_with (go_at_call 82; refine (isNaNI _ _).mono ?_; rintro e w' ⟨rfl, rfl⟩)
      go_ret
      exact ⟨rfl, rfl⟩
set_option maxHeartbeats 1000000 in
theorem compareS (x y : Bs) (w : World) : Calls Tryz.prog 93 #[.string ⟨x.toArray⟩, .string ⟨y.toArray⟩] w fun e w' => e = .returned (.int .i64 (cfS x y)) ∧ w' = w := by
  have HB := bytesLess_before x y
  unfold cfS
  cases h1 : bytesBefore x y
  · rw [h1] at HB
    by_cases h2 : x = y
    · rw [if_pos h2]
      have h2' : (x == y) = true := by simpa using h2
      have HE : Hid (x = y) := h2
      clear h2 h1
      go_enter Tryz.func93, Tryz.ntmps93
      go_wp2_with (go_at_call 108; refine (isNaNS _ _).mono ?_; rintro e w' ⟨rfl, rfl⟩)
      go_ret
      exact ⟨rfl, rfl⟩
    · rw [if_neg h2]
      have h2' : (x == y) = false := by simpa using h2
      clear h1
      go_enter Tryz.func93, Tryz.ntmps93
      go_wp2_with (go_at_call 108; refine (isNaNS _ _).mono ?_; rintro e w' ⟨rfl, rfl⟩)
      go_ret
      exact ⟨rfl, rfl⟩
  · rw [h1] at HB
    clear h1
    go_enter Tryz.func93, Tryz.ntmps93
    go_wp2_with (go_at_call 108; refine (isNaNS _ _).mono ?_; rintro e w' ⟨rfl, rfl⟩)
    go_ret
    exact ⟨rfl, rfl⟩

def encPr (p : Bs × Bs) : List Value := [.string ⟨p.1.toArray⟩, .string ⟨p.2.toArray⟩]
def encE (s : Se) : List Value := [.int .i64 s.cl, .int .i64 s.sq, .int .i64 s.rp.code, .string ⟨s.rp.val.toArray⟩]
instance : Inhabited Rp := ⟨⟨0, []⟩⟩
instance : Inhabited Se := ⟨⟨0, 0, default⟩⟩
def RP : RK (Bs × Bs) := ⟨74, 129, 2, 32, .agg #[.string ⟨[].toArray⟩, .string ⟨[].toArray⟩], encPr, fun _ => rfl, fun x v hv => by simp [encPr] at hv; rcases hv with rfl | rfl <;> rfl, by decide, Tryz.underlying129, by kernel_rfl, rfl, by decide⟩
def RS : RK Se := ⟨79, 82, 4, 40, .agg #[.int .i64 0, .int .i64 0, .int .i64 0, .string ⟨[].toArray⟩], encE, fun _ => rfl, fun x v hv => by simp [encE] at hv; rcases hv with rfl | rfl | rfl | rfl <;> rfl, by decide, Tryz.underlying82, by kernel_rfl, rfl, by decide⟩

set_option maxHeartbeats 1000000 in
theorem closeP (x y : Bs × Bs) (W : World) : Calls Tryz.prog 92 #[.agg #[.string ⟨x.1.toArray⟩, .string ⟨x.2.toArray⟩], .agg #[.string ⟨y.1.toArray⟩, .string ⟨y.2.toArray⟩]] W fun e w' => e = .returned (.int .i64 (cfS x.1 y.1)) ∧ ∃ q os', w' = grow (W.drewN q) os' := by
  have hcon := fun W' => compareS x.1 y.1 W'
  generalize cfS x.1 y.1 = r at hcon ⊢
  go_enter Tryz.func92, Tryz.ntmps92
  go_wp2_with (go_at_call 93; refine (hcon _).mono ?_; rintro e w' ⟨rfl, rfl⟩)
  go_ret
  exact ⟨rfl, 0, _, by rw [alloc_eq_grow, alloc_eq_grow, grow_grow]; rfl⟩
set_option maxHeartbeats 1000000 in
theorem closeS (x y : Se) (W : World) : Calls Tryz.prog 57 #[.agg #[.int .i64 x.cl, .int .i64 x.sq, .int .i64 x.rp.code, .string ⟨x.rp.val.toArray⟩], .agg #[.int .i64 y.cl, .int .i64 y.sq, .int .i64 y.rp.code, .string ⟨y.rp.val.toArray⟩]] W fun e w' => e = .returned (.int .i64 (cfI x.cl y.cl)) ∧ ∃ q os', w' = grow (W.drewN q) os' := by
  have hcon := fun W' => compareI x.cl y.cl W'
  generalize cfI x.cl y.cl = r at hcon ⊢
  go_enter Tryz.func57, Tryz.ntmps57
  go_wp2_with (go_at_call 58; refine (hcon _).mono ?_; rintro e w' ⟨rfl, rfl⟩)
  go_ret
  exact ⟨rfl, 0, _, by rw [alloc_eq_grow, alloc_eq_grow, grow_grow]; rfl⟩

/-- Sorted by keys, and the same things: the rising list itself. -/
theorem sorted_eq {α : Type} [Inhabited α] {κ : α → Lit} {cf : α → α → Int} (hlt : ∀ x y, ltOf cf x y = (κ x).before (κ y)) (hanti : ∀ x y, (κ x).before (κ y) = true → (κ y).before (κ x) = true → False) (htot : ∀ x y, κ x ≠ κ y → (κ x).before (κ y) = true ∨ (κ y).before (κ x) = true)
    {xs got : List α} (hr : Ris κ xs) (hne : xs.Pairwise (fun x y => κ x ≠ κ y)) (hp : got.Perm xs) {d' : Array α} (h1 : PermIn 0 got.toArray.size got.toArray d') (h2 : SortedIn (ltOf cf) 0 got.toArray.size d') : d'.toList = xs := by
  have hs : d'.size = got.length := by simpa using h1.1
  have hp2 : d'.toList.Perm got := by
    have := h1.2.2
    have e1 : (d'.extract 0 got.toArray.size) = d' := by rw [show got.toArray.size = d'.size by simp [hs]]; simp
    have e2 : (got.toArray.extract 0 got.toArray.size) = got.toArray := by simp
    rw [e1, e2] at this
    simpa using this
  have hp3 := hp2.trans hp
  have hne' : d'.toList.Pairwise (fun x y => κ x ≠ κ y) := (hp3.pairwise_iff (fun {_ _} h => Ne.symm h)).2 hne
  refine List.Perm.eq_of_pairwise (le := fun x y => (κ x).before (κ y) = true) (fun a b _ _ g1 g2 => (hanti a b g1 g2).elim) ?_ hr hp3
  rw [List.pairwise_iff_getElem] at hne' ⊢
  intro i j hi hj hij
  have hi' : i < d'.size := by simpa using hi
  have hj' : j < d'.size := by simpa using hj
  have h3 := h2 i j (Nat.zero_le _) hij (by simpa [hs] using hj')
  rw [hlt, getElem!_pos d' i hi', getElem!_pos d' j hj'] at h3
  rcases htot d'[i] d'[j] (by simpa using hne' i j hi hj hij) with g | g
  · simpa using g
  · rw [g] at h3; cases h3
end Go.Proofs.YtglhjgfaelfleaaGreat
