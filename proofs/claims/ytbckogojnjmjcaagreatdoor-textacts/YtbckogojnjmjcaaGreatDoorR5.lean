/-
  The document's line of an act, plainly.
-/
import Derived.Test.YtbckogojnjmjcaaGreatDoorPc
namespace Go.Proofs.YtbckogojnjmjcaaGreatDoor
open Go

def fo00 : Fo := ⟨[], 0, 0, 0, []⟩
/-- The document's row of an act. -/
def selF (a : Ac) : Fo → List Fo → Fo
  | row, [] => row
  | row, f :: fs => if f.kind = a.kind ∧ (a.kind ≠ 13 ∨ f.op = a.op) ∧ (a.kind ≠ 8 ∨ f.m = a.m ∨ row.word = []) then selF a f fs else selF a row fs
/-- Its takes. -/
def takeL : List Pc → Ac → Bs → Bs
  | [], _, s => s
  | p :: ps, a, s => takeL ps (p.clr a) (s ++ [32] ++ p.show a)
def leftF (f : Fo) (a : Ac) : Ac := { clrs f.pl a with kind := 0, m := if a.kind = 8 then 0 else (clrs f.pl a).m, op := if a.kind = 13 then 0 else (clrs f.pl a).op }
def docC (f : Fo) (a : Ac) : Nat :=
  if leftF f a ≠ ac0 then 4 else if a.kind = 2 ∧ (a.n < 1 ∨ 9 < a.n) then 20 else if ¬ (inNum a.node = true ∧ inNum a.client = true ∧ inNum a.n = true ∧ inNum a.m = true) ∨ (a.kind = 8 ∧ a.m ≠ 0 ∧ a.m ≠ 1) then 1 else 0
/-- The document's line of an act. -/
def docF (a : Ac) : Except Nat Bs :=
  if a.kind < 1 ∨ 16 < a.kind then .error 6
  else if a.kind = 13 ∧ (a.op < 1 ∨ 4 < a.op) then .error 20
  else if docC (selF a fo00 formsL) a ≠ 0 then .error (docC (selF a fo00 formsL) a)
  else if 4096 < (takeL (selF a fo00 formsL).pl a (selF a fo00 formsL).word).length then .error 3
  else .ok (takeL (selF a fo00 formsL).pl a (selF a fo00 formsL).word)
theorem take_line : ∀ f ∈ formsL, ∀ a : Ac, takeL f.pl a f.word = f.line a := by
  intro f hf a
  obtain ⟨k, nd, cl, n, m, op, key, val, old⟩ := a
  simp only [formsL, List.mem_cons, List.not_mem_nil, or_false] at hf
  rcases hf with rfl | rfl | rfl | rfl | rfl | rfl | rfl | rfl | rfl | rfl | rfl | rfl | rfl | rfl | rfl | rfl | rfl | rfl | rfl | rfl <;> simp [takeL, Fo.line, Pc.clr, Pc.show, Lib.join, List.intercalate, List.intersperse]
theorem left_rest : ∀ f ∈ formsL, ∀ a : Ac, f.kind = a.kind → f.fits a = true → (leftF f a = ac0 ↔ f.rest a = f.says) := by
  intro f hf a hk hfi
  obtain ⟨k, nd, cl, n, m, op, key, val, old⟩ := a
  simp only [formsL, List.mem_cons, List.not_mem_nil, or_false] at hf
  rcases hf with rfl | rfl | rfl | rfl | rfl | rfl | rfl | rfl | rfl | rfl | rfl | rfl | rfl | rfl | rfl | rfl | rfl | rfl | rfl | rfl
  all_goals (
    simp only at hk
    subst hk
    simp [Fo.fits] at hfi
    simp [leftF, clrs, Pc.clr, ac0, Fo.rest, Fo.says])
  all_goals (first | (intros; omega) | (intros; assumption) | skip)
theorem chk_doc : ∀ f ∈ formsL, ∀ a : Ac, f.kind = a.kind → f.fits a = true → docC f a = f.chk a := by
  intro f hf a hk hfi
  have hlr := left_rest f hf a hk hfi
  by_cases hA : leftF f a = ac0
  case neg =>
    have e1 : docC f a = 4 := by unfold docC; rw [if_pos hA]
    have e2 : f.chk a = 4 := by unfold Fo.chk; rw [if_pos (fun h => hA (hlr.2 h))]
    rw [e1, e2]
  have hB := hlr.1 hA
  unfold docC Fo.chk
  rw [if_neg (show ¬ (leftF f a ≠ ac0) from fun h => h hA), if_neg (show ¬ (f.rest a ≠ f.says) from fun h => h hB)]
  clear hlr hA
  obtain ⟨k, nd, cl, n, m, op, key, val, old⟩ := a
  simp only [formsL, List.mem_cons, List.not_mem_nil, or_false] at hf
  rcases hf with rfl | rfl | rfl | rfl | rfl | rfl | rfl | rfl | rfl | rfl | rfl | rfl | rfl | rfl | rfl | rfl | rfl | rfl | rfl | rfl
  all_goals (
    simp only at hk
    subst hk
    simp [Fo.fits] at hfi
    simp [Fo.rest, Fo.says, clrs, Pc.clr] at hB
    simp [numsOk, Pc.isNum, Pc.int, inNum, hB])
  all_goals (repeat' split)
  all_goals (first | rfl | omega | (exfalso; omega))
theorem sel_form (a : Ac) (h1 : 1 ≤ a.kind) (h2 : a.kind ≤ 16) (h3 : a.kind = 13 → 1 ≤ a.op ∧ a.op ≤ 4) : ∃ f ∈ formsL, selF a fo00 formsL = f ∧ formOf formsL a 6 = .ok f := by
  obtain ⟨k, nd, cl, n, m, op, key, val, old⟩ := a
  simp only at h1 h2 h3
  have : k = 1 ∨ k = 2 ∨ k = 3 ∨ k = 4 ∨ k = 5 ∨ k = 6 ∨ k = 7 ∨ k = 8 ∨ k = 9 ∨ k = 10 ∨ k = 11 ∨ k = 12 ∨ k = 13 ∨ k = 14 ∨ k = 15 ∨ k = 16 := by omega
  rcases this with rfl | rfl | rfl | rfl | rfl | rfl | rfl | rfl | rfl | rfl | rfl | rfl | rfl | rfl | rfl | rfl
  case inr.inr.inr.inr.inr.inr.inr.inl =>
    by_cases hm : m = 0
    · subst hm
      exact ⟨_, by simp [formsL, selF, fo00], rfl, rfl⟩
    · have hm' : ¬ (0 = m) := fun h => hm h.symm
      refine ⟨⟨[108, 105, 110, 107], 8, 1, 0, [.node, .n]⟩, by simp [formsL], ?_, ?_⟩
      · simp [selF, formsL, fo00, hm']
      · simp [formOf, formsL, Fo.fits, hm]
  case inr.inr.inr.inr.inr.inr.inr.inr.inr.inr.inr.inr.inl =>
    have := h3 rfl
    have : op = 1 ∨ op = 2 ∨ op = 3 ∨ op = 4 := by omega
    rcases this with rfl | rfl | rfl | rfl
    all_goals exact ⟨_, by simp [formsL, selF, fo00], rfl, rfl⟩
  all_goals exact ⟨_, by simp [formsL, selF, fo00], rfl, rfl⟩
theorem formOf_none {fs : List Fo} {a : Ac} {e : Nat} (h : ∀ f ∈ fs, f.kind ≠ a.kind) : formOf fs a e = .error e := by
  induction fs with
  | nil => rfl
  | cons g fs ih =>
    rw [formOf, if_pos (h g (.head _))]
    exact ih (fun f hf => h f (.tail _ hf))
theorem quote_ge (s : Bs) : s.length ≤ (quoteL s).length := by
  unfold quoteL
  split
  · omega
  · have := (flat_len s).1
    simp only [List.length_cons, List.length_append, List.length_nil]
    omega
theorem line_ge : ∀ f ∈ formsL, ∀ a : Ac, f.kind = a.kind → f.chk a = 0 → a.key.length + a.val.length + a.old.length ≤ (f.line a).length := by
  intro f hf a hk hc
  obtain ⟨hB, -⟩ := Fo.chk_zero hc
  clear hc
  obtain ⟨k, nd, cl, n, m, op, key, val, old⟩ := a
  have q1 := quote_ge key
  have q2 := quote_ge val
  have q3 := quote_ge old
  simp only [formsL, List.mem_cons, List.not_mem_nil, or_false] at hf
  rcases hf with rfl | rfl | rfl | rfl | rfl | rfl | rfl | rfl | rfl | rfl | rfl | rfl | rfl | rfl | rfl | rfl | rfl | rfl | rfl | rfl
  all_goals (
    simp only at hk
    subst hk
    simp [Fo.rest, Fo.says, clrs, Pc.clr] at hB
    simp only [hB, List.length_nil]
    simp [Fo.line, Pc.show, Lib.join, List.intercalate, List.intersperse])
  all_goals try omega
theorem doc_fmt (a : Ac) : docF a = fmtF a := by
  unfold docF fmtF
  by_cases h1 : a.kind < 1 ∨ 16 < a.kind
  · rw [if_pos h1, formOf_none]
    intro f hf
    simp only [formsL, List.mem_cons, List.not_mem_nil, or_false] at hf
    rcases hf with rfl | rfl | rfl | rfl | rfl | rfl | rfl | rfl | rfl | rfl | rfl | rfl | rfl | rfl | rfl | rfl | rfl | rfl | rfl | rfl <;> (simp only; omega)
  rw [if_neg h1]
  by_cases h2 : a.kind = 13 ∧ (a.op < 1 ∨ 4 < a.op)
  · rw [if_pos h2]
    have e : formOf formsL a 6 = .error 20 := by
      have o1 : a.op ≠ 1 := by omega
      have o2 : a.op ≠ 2 := by omega
      have o3 : a.op ≠ 3 := by omega
      have o4 : a.op ≠ 4 := by omega
      simp [formOf, formsL, Fo.fits, h2.1, o1, o2, o3, o4]
    rw [e]
  rw [if_neg h2]
  obtain ⟨f, hf, e1, e2⟩ := sel_form a (by omega) (by omega) (fun h => by omega)
  obtain ⟨-, m2, m3⟩ := formOf_ok e2
  rw [e1, e2, chk_doc f hf a m2 m3, take_line f hf a]
  by_cases h3 : f.chk a ≠ 0
  · simp only [if_pos h3]
  · simp only [if_neg h3]
    have hge := line_ge f hf a m2 (by simpa using h3)
    by_cases h4 : 4096 < (f.line a).length
    · rw [if_pos h4]
      split <;> rfl
    · rw [if_neg h4, if_neg (by omega)]
end Go.Proofs.YtbckogojnjmjcaaGreatDoor
