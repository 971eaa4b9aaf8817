/-
  Histories in plain lists: what an operation does, orders of a key's operations, the first of them.
-/
import Derived.Handy
namespace Go.Proofs.Ytbcnpdpdflkanaa

abbrev Bs := List UInt8
structure Rp where
  code : Int
  val : Bs
deriving DecidableEq
structure Lo where
  cl : Int
  sq : Int
  kind : Int
  key : Bs
  val : Bs
  old : Bs
  call : Int
  back : Int
  rp : Rp
deriving DecidableEq
def lo0 : Lo := ⟨0, 0, 0, [], [], [], 0, 0, ⟨0, []⟩⟩

def Lo.counts (x : Lo) : Bool := if x.back = 0 then decide (x.kind ≠ 1) else decide (x.rp.code = 1 ∨ x.rp.code = 2 ∨ x.rp.code = 3)

def step (th : Bool) (v : Bs) (x : Lo) : Bool × Bs × Rp :=
  if x.kind = 1 then (if th then (true, v, ⟨1, v⟩) else (false, [], ⟨2, []⟩))
  else if x.kind = 2 then (true, x.val, ⟨1, []⟩)
  else if x.kind = 3 then (false, [], ⟨if th then 1 else 2, []⟩)
  else if x.kind = 4 then (if th then (if v = x.old then (true, x.val, ⟨1, []⟩) else (true, v, ⟨3, v⟩)) else (false, [], ⟨2, []⟩))
  else (th, if th then v else [], ⟨0, []⟩)

/-! ### orders -/
def upd (D : Nat → Bool) (i : Nat) : Nat → Bool := fun k => D k || decide (k = i)
def oat (ops : List Lo) (i : Nat) : Lo := ops[i]?.getD lo0
def fineB (ops : List Lo) (D : Nat → Bool) : Bool := (List.range ops.length).all fun k => decide ((oat ops k).back = 0) || D k
def mayB (ops : List Lo) (D : Nat → Bool) (i : Nat) : Bool := !D i && (List.range ops.length).all fun k => decide ((oat ops k).back = 0) || decide ((oat ops i).call ≤ (oat ops k).back) || D k
def okB (th : Bool) (v : Bs) (x : Lo) : Bool := decide (x.back = 0) || decide ((step th v x).2.2 = x.rp)
/-- May i be the next one? -/
def nextB (ops : List Lo) (D : Nat → Bool) (th : Bool) (v : Bs) (i : Nat) : Bool := mayB ops D i && okB th v (oat ops i)

def Path (ops : List Lo) : (Nat → Bool) → Bool → Bs → List Nat → Prop
  | D, _, _, [] => fineB ops D = true
  | D, th, v, i :: l => i < ops.length ∧ nextB ops D th v i = true ∧ Path ops (upd D i) (step th v (oat ops i)).1 (step th v (oat ops i)).2.1 l

def ahead : List Nat → List Nat → Bool
  | [], [] => false
  | [], _ :: _ => true
  | _ :: _, [] => false
  | a :: l, b :: m => if a = b then ahead l m else decide (a < b)

theorem ahead_anti : ∀ (l m : List Nat), ahead l m = false → ahead m l = false → l = m
  | [], [], _, _ => rfl
  | [], _ :: _, h, _ => by simp [ahead] at h
  | _ :: _, [], _, h => by simp [ahead] at h
  | a :: l, b :: m, h1, h2 => by
    unfold ahead at h1 h2
    by_cases e : a = b
    · subst e
      simp only [if_true] at h1 h2
      rw [ahead_anti l m h1 h2]
    · rw [if_neg e] at h1
      rw [if_neg (fun h => e h.symm)] at h2
      simp at h1 h2
      omega

structure Least (ops : List Lo) (D : Nat → Bool) (th : Bool) (v : Bs) (l : List Nat) : Prop where
  path : Path ops D th v l
  none : ∀ m, Path ops D th v m → ahead m l = false

theorem Least.uniq {ops : List Lo} {D : Nat → Bool} {th : Bool} {v : Bs} {l m : List Nat} (h1 : Least ops D th v l) (h2 : Least ops D th v m) : l = m :=
  ahead_anti _ _ (h2.none _ h1.path) (h1.none _ h2.path)

def IsL (ops : List Lo) (D : Nat → Bool) (th : Bool) (v : Bs) : Option (List Nat) → Prop
  | some l => Least ops D th v l
  | none => ∀ l, ¬ Path ops D th v l

theorem IsL.uniq {ops : List Lo} {D : Nat → Bool} {th : Bool} {v : Bs} : ∀ {a b : Option (List Nat)}, IsL ops D th v a → IsL ops D th v b → a = b
  | some _, some _, h1, h2 => by rw [Least.uniq h1 h2]
  | some _, none, h1, h2 => absurd h1.path (h2 _)
  | none, some _, h1, h2 => absurd h2.path (h1 _)
  | none, none, _, _ => rfl

theorem isL_fine {ops : List Lo} {D : Nat → Bool} {th : Bool} {v : Bs} (h : fineB ops D = true) : IsL ops D th v (some []) :=
  ⟨h, fun m hm => by cases m <;> rfl⟩

/-- None that begins with a lesser one than i is a path. -/
def Past (ops : List Lo) (D : Nat → Bool) (th : Bool) (v : Bs) (i : Nat) : Prop := ∀ j, j < i → ∀ l, ¬ Path ops D th v (j :: l)

theorem past0 {ops : List Lo} {D : Nat → Bool} {th : Bool} {v : Bs} : Past ops D th v 0 := fun j h => absurd h (by omega)

theorem Past.skip {ops : List Lo} {D : Nat → Bool} {th : Bool} {v : Bs} {i : Nat} (h : Past ops D th v i) (hn : nextB ops D th v i = false) : Past ops D th v (i + 1) := fun j hj l hp => by
  by_cases e : j = i
  · subst e; rw [hp.2.1] at hn; cases hn
  · exact h j (by omega) l hp

theorem Past.no {ops : List Lo} {D : Nat → Bool} {th : Bool} {v : Bs} {i : Nat} (h : Past ops D th v i) (hn : IsL ops (upd D i) (step th v (oat ops i)).1 (step th v (oat ops i)).2.1 none) : Past ops D th v (i + 1) := fun j hj l hp => by
  by_cases e : j = i
  · subst e; exact hn _ hp.2.2
  · exact h j (by omega) l hp

theorem Past.all {ops : List Lo} {D : Nat → Bool} {th : Bool} {v : Bs} (h : Past ops D th v ops.length) (hf : fineB ops D = false) : IsL ops D th v Option.none := fun l hp => by
  cases l with
  | nil => rw [show fineB ops D = true from hp] at hf; cases hf
  | cons j l => exact h j hp.1 l hp

theorem Past.some {ops : List Lo} {D : Nat → Bool} {th : Bool} {v : Bs} {i : Nat} {l : List Nat} (h : Past ops D th v i) (hf : fineB ops D = false) (hi : i < ops.length) (hn : nextB ops D th v i = true)
    (hl : IsL ops (upd D i) (step th v (oat ops i)).1 (step th v (oat ops i)).2.1 (some l)) : IsL ops D th v (some (i :: l)) := by
  refine ⟨⟨hi, hn, hl.path⟩, fun m hm => ?_⟩
  cases m with
  | nil => rw [show fineB ops D = true from hm] at hf; cases hf
  | cons j m =>
    unfold ahead
    by_cases e : j = i
    · subst e; rw [if_pos rfl]; exact hl.none _ hm.2.2
    · rw [if_neg e]
      by_cases h' : j < i
      · exact absurd hm (h j h' m)
      · simpa using h'

/-! ### the first one, reckoned -/
def tryI (ops : List Lo) (rec : (Nat → Bool) → Bool → Bs → Option (List Nat)) (D : Nat → Bool) (th : Bool) (v : Bs) : Nat → Nat → Option (List Nat)
  | 0, _ => none
  | f + 1, i => if nextB ops D th v i then (match rec (upd D i) (step th v (oat ops i)).1 (step th v (oat ops i)).2.1 with
      | some l => some (i :: l)
      | none => tryI ops rec D th v f (i + 1)) else tryI ops rec D th v f (i + 1)
def find (ops : List Lo) : Nat → (Nat → Bool) → Bool → Bs → Option (List Nat)
  | 0, D, _, _ => if fineB ops D then some [] else none
  | f + 1, D, th, v => if fineB ops D then some [] else tryI ops (find ops f) D th v ops.length 0

/-- How many are not done. -/
def left (n : Nat) (D : Nat → Bool) : Nat := ((List.range n).filter fun k => !D k).length

theorem left_upd {D : Nat → Bool} {i : Nat} (hd : D i = false) : ∀ (n : Nat), i < n → left n (upd D i) + 1 = left n D := by
  have hout : ∀ n, n ≤ i → left n (upd D i) = left n D := by
    intro n hn
    unfold left
    congr 1
    apply List.filter_congr
    intro k hk
    have := List.mem_range.1 hk
    simp [upd, show k ≠ i from by omega]
  intro n
  induction n with
  | zero => intro h; omega
  | succ n ih =>
    intro h
    by_cases e : n = i
    · have h1 := hout n (by omega)
      unfold left at h1 ⊢
      rw [List.range_succ, List.filter_append, List.filter_append, List.length_append, List.length_append, h1]
      subst e
      simp [upd, hd]
    · have h1 := ih (by omega)
      unfold left at h1 ⊢
      rw [List.range_succ, List.filter_append, List.filter_append, List.length_append, List.length_append]
      have : (List.filter (fun k => !upd D i k) [n]).length = (List.filter (fun k => !D k) [n]).length := by
        congr 1
        apply List.filter_congr
        intro k hk
        have : k = n := by simpa using hk
        subst this
        simp [upd, e]
      omega

theorem left_pos {D : Nat → Bool} {i n : Nat} (hd : D i = false) (hi : i < n) : 0 < left n D := by
  have := left_upd hd n hi; omega

theorem left_le (n : Nat) (D : Nat → Bool) : left n D ≤ n := by
  unfold left
  have := List.length_filter_le (fun k => !D k) (List.range n)
  simpa using this

theorem nextB_not {ops : List Lo} {D : Nat → Bool} {th : Bool} {v : Bs} {i : Nat} (h : nextB ops D th v i = true) : D i = false := by
  unfold nextB mayB at h
  simp at h
  exact h.1.1

theorem tryI_isL {ops : List Lo} {rec : (Nat → Bool) → Bool → Bs → Option (List Nat)} {D : Nat → Bool} {th : Bool} {v : Bs} (hf : fineB ops D = false)
    (hr : ∀ i, i < ops.length → nextB ops D th v i = true → IsL ops (upd D i) (step th v (oat ops i)).1 (step th v (oat ops i)).2.1 (rec (upd D i) (step th v (oat ops i)).1 (step th v (oat ops i)).2.1)) :
    ∀ (f i : Nat), i + f = ops.length → Past ops D th v i → IsL ops D th v (tryI ops rec D th v f i)
  | 0, i, hi, h => by
    have : i = ops.length := by omega
    subst this
    exact h.all hf
  | f + 1, i, hi, h => by
    unfold tryI
    by_cases hn : nextB ops D th v i = true
    · rw [if_pos hn]
      have h1 := hr i (by omega) hn
      split
      · rename_i l hl; rw [hl] at h1; exact h.some hf (by omega) hn h1
      · rename_i hl; rw [hl] at h1; exact tryI_isL hf hr f (i + 1) (by omega) (h.no h1)
    · rw [if_neg hn]
      exact tryI_isL hf hr f (i + 1) (by omega) (h.skip (by simpa using hn))

theorem find_isL (ops : List Lo) : ∀ (f : Nat) (D : Nat → Bool) (th : Bool) (v : Bs), left ops.length D ≤ f → IsL ops D th v (find ops f D th v)
  | 0, D, th, v, h => by
    unfold find
    by_cases hf : fineB ops D = true
    · rw [if_pos hf]; exact isL_fine hf
    · rw [if_neg hf]
      intro l hp
      cases l with
      | nil => exact hf hp
      | cons j l => have := left_pos (nextB_not hp.2.1) hp.1; omega
  | f + 1, D, th, v, h => by
    unfold find
    by_cases hf : fineB ops D = true
    · rw [if_pos hf]; exact isL_fine hf
    · rw [if_neg hf]
      refine tryI_isL (by simpa using hf) (fun i hi hn => find_isL ops f _ _ _ ?_) _ 0 (by omega) past0
      have := left_upd (nextB_not hn) ops.length hi
      omega

def expl (ops : List Lo) : Option (List Nat) := find ops ops.length (fun _ => false) false []
theorem expl_isL (ops : List Lo) : IsL ops (fun _ => false) false [] (expl ops) := find_isL ops _ _ _ _ (left_le _ _)

/-! ### histories -/
def mine (h : List Lo) (key : Bs) (i : Nat) : Bool := decide ((oat h i).key = key) && (oat h i).counts
/-- The numbers of the operations of a key that count. -/
def nums (h : List Lo) (key : Bs) : List Nat := (List.range h.length).filter (mine h key)
def opsOf (h : List Lo) (key : Bs) : List Lo := (nums h key).map (oat h)
def explain (h : List Lo) (key : Bs) : Option (List Nat) := (expl (opsOf h key)).map fun l => l.map fun i => (nums h key)[i]?.getD 0

def sound (x : Lo) : Int :=
  if x.kind < 1 ∨ 4 < x.kind then 6
  else if x.call < 1 then 4
  else if x.back = 0 then (if x.rp = ⟨0, []⟩ then 0 else 4)
  else if x.back < x.call then 4
  else if x.rp.code < 1 ∨ 10 < x.rp.code then 4 else 0
def sounds : List Lo → Int
  | [] => 0
  | x :: r => if sound x = 0 then sounds r else sound x
def many (h : List Lo) (x : Lo) : Nat := (nums h x.key).length
def valid (h : List Lo) : Int :=
  if 400 < h.length then 23
  else if sounds h ≠ 0 then sounds h
  else if h.all (fun x => !x.counts || decide (many h x ≤ 12)) then 0 else 23
def judged (h : List Lo) : Bool := h.all fun x => !x.counts || (explain h x.key).isSome
end Go.Proofs.Ytbcnpdpdflkanaa
