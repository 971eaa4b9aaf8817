/-
  Acts of lines have lines; what goes wrong has a number.
-/
import Derived.Test.YtbckogojnjmjcaaGreatDoorC5
namespace Go.Proofs.YtbckogojnjmjcaaGreatDoor
open Go.RowKit Go.Shelf

theorem rd_ok {p : Pc} {a a' : Ac} {s : Bs} (ha : AcOk a) (hs : s.length ≤ 1000000) (h : p.rd a s = .ok a') : AcOk a' := by
  have hn : ∀ v, numOf s = some v → -9223372036854775808 ≤ v ∧ v ≤ 9223372036854775807 := fun v h => by have := inNum_iff.1 (numOf_in h); omega
  have hp : ∀ v, pickOf s = some v → -9223372036854775808 ≤ v ∧ v ≤ 9223372036854775807 := fun v h => by have := pickOf_le h; omega
  cases p <;> simp only [Pc.rd] at h
  case key => cases h; exact { ha with key := hs }
  case val => cases h; exact { ha with val := hs }
  case old => cases h; exact { ha with old := hs }
  case pick =>
    cases hk : pickOf s with
    | none => rw [hk] at h; cases h
    | some v => rw [hk] at h; cases h; exact { ha with n := hp v hk }
  all_goals (
    cases hk : numOf s with
    | none => rw [hk] at h; cases h
    | some v => rw [hk] at h; cases h; first | exact { ha with node := hn v hk } | exact { ha with client := hn v hk } | exact { ha with n := hn v hk } | exact { ha with m := hn v hk })
theorem fill_ok : ∀ (pl : List Pc) (ws : List Bs) {a a' : Ac}, AcOk a → (∀ x ∈ ws, x.length ≤ 1000000) → fill pl ws a = .ok a' → AcOk a'
  | [], ws, a, a', ha, _, h => by cases ws <;> (cases h; exact ha)
  | p :: pl, [], a, a', ha, _, h => by cases h; exact ha
  | p :: pl, s :: ws, a, a', ha, hw, h => by
    simp only [fill] at h
    cases hr : p.rd a s with
    | error e => rw [hr] at h; cases h
    | ok b => rw [hr] at h; exact fill_ok pl ws (rd_ok ha (hw s (.head _)) hr) (fun x hx => hw x (.tail _ hx)) h
theorem says_ok : ∀ f ∈ formsL, AcOk f.says := by
  intro f hf
  simp only [formsL, List.mem_cons, List.not_mem_nil, or_false] at hf
  rcases hf with rfl | rfl | rfl | rfl | rfl | rfl | rfl | rfl | rfl | rfl | rfl | rfl | rfl | rfl | rfl | rfl | rfl | rfl | rfl | rfl <;> exact ⟨by decide, by decide, by decide, by decide, by decide, by decide, by decide, by decide, by decide⟩
theorem fill_err : ∀ (pl : List Pc) (ws : List Bs) {a : Ac} {k : Nat}, fill pl ws a = .error k → k = 20 ∨ k = 22
  | [], ws, a, k, h => by cases ws <;> cases h
  | p :: pl, [], a, k, h => by cases h
  | p :: pl, s :: ws, a, k, h => by
    simp only [fill] at h
    cases hr : p.rd a s with
    | error e => rw [hr] at h; cases h; exact rd_err hr
    | ok b => rw [hr] at h; exact fill_err pl ws h
theorem PaR.act {s : Bs} {y : Ac} (h : PaR s (.ok y)) : AcOk y ∧ s ≠ [] ∧ ∃ ws, parseW ws = .ok y := by
  have hne : s ≠ [] := fun e => parse_nil ⟨y, e ▸ h⟩
  rcases h with h | h | ⟨h1, ws, h2, h3⟩
  · cases h.2
  · cases h.2.2
  · refine ⟨?_, hne, ws, h3.symm⟩
    cases ws with
    | nil => cases h3
    | cons wd ws =>
      have hw := word_len h2
      simp only [parseW] at h3
      cases hf : findF formsL wd with
      | none => rw [hf] at h3; cases h3
      | some f =>
        rw [hf] at h3
        simp only at h3
        split at h3
        · cases h3
        · exact fill_ok f.pl ws (says_ok f (findF_mem hf).1) (fun x hx => by have := hw x (.tail _ hx); omega) h3.symm
theorem PaR.err {s : Bs} {k : Nat} (h : PaR s (.error k)) : k = 3 ∨ k = 4 ∨ k = 20 ∨ k = 21 ∨ k = 22 := by
  rcases h with h | h | ⟨h1, ws, h2, h3⟩
  · cases h.2; simp
  · cases h.2.2; simp
  · cases ws with
    | nil => cases h3; simp
    | cons wd ws =>
      simp only [parseW] at h3
      cases hf : findF formsL wd with
      | none => rw [hf] at h3; cases h3; simp
      | some f =>
        rw [hf] at h3
        simp only at h3
        split at h3
        · cases h3; simp
        · rcases fill_err f.pl ws h3.symm with rfl | rfl <;> simp
theorem fmt_err {a : Ac} {k : Nat} (h : fmtF a = .error k) : k = 6 ∨ k = 20 ∨ k = 4 ∨ k = 1 ∨ k = 3 := by
  unfold fmtF at h
  cases hf : formOf formsL a 6 with
  | error e => rw [hf] at h; cases h; rcases formOf_err' hf with rfl | rfl <;> simp
  | ok f =>
    rw [hf] at h
    simp only at h
    split at h
    · rename_i hc
      cases h
      unfold Fo.chk at hc ⊢
      repeat' split
      all_goals first
        | simp
        | skip
      all_goals simp_all
    · split at h
      · cases h; simp
      · split at h
        · cases h; simp
        · cases h
theorem fmt_again {y : Ac} {ws : List Bs} (h : parseW ws = .ok y) : (∃ t, fmtF y = .ok t) ∨ fmtF y = .error 3 := by
  obtain ⟨f, h1, h2⟩ := parse_form h
  unfold fmtF
  rw [h1]
  simp only [h2]
  rw [if_neg (by simp)]
  split
  · exact .inr rfl
  · split
    · exact .inr rfl
    · exact .inl ⟨_, rfl⟩
theorem fmt_len {a : Ac} {s : Bs} (h : fmtF a = .ok s) : s.length ≤ 4096 := by
  unfold fmtF at h
  cases hf : formOf formsL a 6 with
  | error e => rw [hf] at h; cases h
  | ok f =>
    rw [hf] at h
    simp only at h
    split at h
    · cases h
    · split at h
      · cases h
      · split at h
        · cases h
        · cases h; omega
/-- An act that came in. -/
structure AcIn (a : Ac) : Prop where
  kind : -9223372036854775808 ≤ a.kind ∧ a.kind ≤ 9223372036854775807
  node : -9223372036854775808 ≤ a.node ∧ a.node ≤ 9223372036854775807
  client : -9223372036854775808 ≤ a.client ∧ a.client ≤ 9223372036854775807
  n : -9223372036854775808 ≤ a.n ∧ a.n ≤ 9223372036854775807
  m : -9223372036854775808 ≤ a.m ∧ a.m ≤ 9223372036854775807
  op : -9223372036854775808 ≤ a.op ∧ a.op ≤ 9223372036854775807
  key : a.key.length ≤ maxLen
  val : a.val.length ≤ maxLen
  old : a.old.length ≤ maxLen
theorem AcIn.ok {a : Ac} (h : AcIn a) (h1 : a.key.length ≤ 20000) (h2 : a.val.length ≤ 20000) (h3 : a.old.length ≤ 20000) : AcOk a :=
  ⟨h.kind, h.node, h.client, h.n, h.m, h.op, by omega, by omega, by omega⟩
end Go.Proofs.YtbckogojnjmjcaaGreatDoor
