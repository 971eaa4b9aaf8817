/-
  Mails in memory: a list of them, as the walks read it; rows of the call's own.
-/
import Derived.Test.YtefbfjlmhfmiiaaBas
namespace Go.Proofs.Ytefbfjlmhfmiiaa
open Go.RowKit
set_option linter.unusedVariables false

/-- What a mail says: its number, from, to, its data, whether it is spoilt. -/
abbrev Ma := Int × Int × Int × List UInt8 × Bool
def mN (e : Ma) : Int := e.1
def mF (e : Ma) : Int := e.2.1
def mT (e : Ma) : Int := e.2.2.1
def mD (e : Ma) : List UInt8 := e.2.2.2.1
def mS (e : Ma) : Bool := e.2.2.2.2
def nilMa : Ma := (0, 0, 0, [], false)

/-- A mail, as it lies in memory. -/
structure Ml where
  n : Int
  f : Int
  t : Int
  a : Option Addr
  c : Nat
  d : List UInt8
  s : Bool

/-- No mail. -/
def nilMl : Ml := ⟨0, 0, 0, none, 0, [], false⟩
def Ml.x (e : Ml) : Value := .slice e.a e.d.length e.c
def Ml.v (e : Ml) : Value := .agg #[.int .i64 e.n, .int .i64 e.f, .int .i64 e.t, e.x, .bool e.s]
/-- What a mail says. -/
def Ml.says (e : Ml) : Ma := (e.n, e.f, e.t, e.d, e.s)

/-- One mail lies at a place. -/
def MlAt (N : Nat) (w : World) (b off : Nat) (e : Ml) : Prop :=
  w.cell? ⟨b, off, none⟩ = some (.int .i64 e.n) ∧ w.cell? ⟨b, off + 1, none⟩ = some (.int .i64 e.f) ∧ w.cell? ⟨b, off + 2, none⟩ = some (.int .i64 e.t) ∧ w.cell? ⟨b, off + 3, none⟩ = some e.x ∧ w.cell? ⟨b, off + 4, none⟩ = some (.bool e.s) ∧ Sl N w e.x e.d

/-- A list of mails, in blocks below N. -/
def MlsAt (N : Nat) (w : World) (a : Option Addr) (es : List Ml) : Prop :=
  es = [] ∨ ∃ b off, a = some ⟨b, off, none⟩ ∧ b < N ∧ ∀ i, i < es.length → MlAt N w b (off + i * 5) (es.getD i nilMl)

theorem MlAt.below {N : Nat} {w w' : World} {b off : Nat} {e : Ml} (h : MlAt N w b off e) (hb : b < N) (hB : Below N w w') : MlAt N w' b off e :=
  ⟨(hB.cell (p := ⟨b, off, none⟩) hb).trans h.1, (hB.cell (p := ⟨b, off + 1, none⟩) hb).trans h.2.1, (hB.cell (p := ⟨b, off + 2, none⟩) hb).trans h.2.2.1, (hB.cell (p := ⟨b, off + 3, none⟩) hb).trans h.2.2.2.1, (hB.cell (p := ⟨b, off + 4, none⟩) hb).trans h.2.2.2.2.1, h.2.2.2.2.2.below hB⟩
theorem MlsAt.below {N : Nat} {w w' : World} {a : Option Addr} {es : List Ml} (h : MlsAt N w a es) (hB : Below N w w') : MlsAt N w' a es := by
  rcases h with h | ⟨b, off, ha, hb, hc⟩
  · exact .inl h
  · exact .inr ⟨b, off, ha, hb, fun i hi => (hc i hi).below hb hB⟩
theorem MlAt.mono {N M : Nat} {w : World} {b off : Nat} {e : Ml} (h : MlAt N w b off e) (hM : N ≤ M) : MlAt M w b off e := ⟨h.1, h.2.1, h.2.2.1, h.2.2.2.1, h.2.2.2.2.1, h.2.2.2.2.2.mono hM⟩
theorem MlsAt.mono {N M : Nat} {w : World} {a : Option Addr} {es : List Ml} (h : MlsAt N w a es) (hM : N ≤ M) : MlsAt M w a es := by
  rcases h with h | ⟨b, off, ha, hb, hc⟩
  · exact .inl h
  · exact .inr ⟨b, off, ha, by omega, fun i hi => (hc i hi).mono hM⟩
theorem MlsAt.at {N : Nat} {w : World} {a : Option Addr} {es : List Ml} (h : MlsAt N w a es) {i : Nat} (hi : i < es.length) : ∃ b off, a = some ⟨b, off, none⟩ ∧ b < N ∧ MlAt N w b (off + i * 5) (es.getD i nilMl) := by
  rcases h with h | ⟨b, off, ha, hb, hc⟩
  · subst h; simp at hi
  · exact ⟨b, off, ha, hb, hc i hi⟩
theorem getD_drop' (es : List Ml) (n i : Nat) : (es.drop n).getD i nilMl = es.getD (n + i) nilMl := by
  simp [List.getD_eq_getElem?_getD, List.getElem?_drop]
theorem getD_take' (es : List Ml) (n i : Nat) (h : i < n) : (es.take n).getD i nilMl = es.getD i nilMl := by
  simp [List.getD_eq_getElem?_getD, h]
/-- A part of them. -/
theorem MlsAt.cut {N : Nat} {w : World} {b off : Nat} {es : List Ml} (h : MlsAt N w (some ⟨b, off, none⟩) es) (n m : Nat) : MlsAt N w (some ⟨b, off + n * 5, none⟩) ((es.drop n).take m) := by
  rcases h with h | ⟨b', off', ha, hb, hc⟩
  · exact .inl (by simp [h])
  · cases ha
    refine .inr ⟨b, off + n * 5, rfl, hb, fun i hi => ?_⟩
    simp at hi
    rw [getD_take' _ _ _ (by omega), getD_drop']
    have := hc (n + i) (by omega)
    rw [Nat.add_mul, ← Nat.add_assoc] at this
    exact this
theorem MlsAt.nil (N : Nat) (w : World) (a : Option Addr) : MlsAt N w a [] := .inl rfl

/-- The cells of mails. -/
def mlCells : List Ml → List Value
  | [] => []
  | e :: r => [.int .i64 e.n, .int .i64 e.f, .int .i64 e.t, e.x, .bool e.s] ++ mlCells r
theorem mlCells_append (a b : List Ml) : mlCells (a ++ b) = mlCells a ++ mlCells b := by
  induction a with
  | nil => rfl
  | cons e r ih => simp [mlCells, ih]
theorem mlCells_length (a : List Ml) : (mlCells a).length = a.length * 5 := by
  induction a with
  | nil => rfl
  | cons e r ih => simp [mlCells, ih]; omega
theorem mlCells_take (a : List Ml) : ∀ n, mlCells (a.take n) = (mlCells a).take (n * 5) := by
  induction a with
  | nil => intro n; simp [mlCells]
  | cons e r ih =>
    intro n
    cases n with
    | zero => simp [mlCells]
    | succ n =>
      have e1 : (n + 1) * 5 = n * 5 + 1 + 1 + 1 + 1 + 1 := by omega
      rw [e1]
      simp [mlCells, ih n]
theorem mlCells_one (u : List Ml) : ∀ x ∈ mlCells u, x.oneCell' = true := by
  induction u with
  | nil => intro x hx; simp [mlCells] at hx
  | cons e r ih =>
    intro x hx
    simp only [mlCells, List.cons_append, List.nil_append, List.mem_cons] at hx
    rcases hx with rfl | rfl | rfl | rfl | rfl | hx
    · rfl
    · rfl
    · rfl
    · rfl
    · rfl
    · exact ih x hx
theorem mlCells_at : ∀ (fs : List Ml) (i : Nat), i < fs.length → (mlCells fs)[i * 5]? = some (.int .i64 (fs.getD i nilMl).n) ∧ (mlCells fs)[i * 5 + 1]? = some (.int .i64 (fs.getD i nilMl).f) ∧ (mlCells fs)[i * 5 + 2]? = some (.int .i64 (fs.getD i nilMl).t) ∧ (mlCells fs)[i * 5 + 3]? = some (fs.getD i nilMl).x ∧ (mlCells fs)[i * 5 + 4]? = some (.bool (fs.getD i nilMl).s) := by
  intro fs
  induction fs with
  | nil => intro i hi; simp at hi
  | cons f r ih =>
    intro i hi
    cases i with
    | zero => simp [mlCells]
    | succ i =>
      obtain ⟨a1, a2, a3, a4, a5⟩ := ih i (by simpa using hi)
      have e1 : (i + 1) * 5 = i * 5 + 1 + 1 + 1 + 1 + 1 := by omega
      rw [e1]
      simp only [mlCells, List.cons_append, List.nil_append, List.getElem?_cons_succ, List.getD_cons_succ]
      exact ⟨a1, a2, a3, a4, a5⟩
theorem mlCells_of (es : List Ml) (o : Nat) (v : Value) (h : (mlCells es)[o]? = some v) (P : Nat → Value → Prop) (hP : ∀ i, i < es.length → P (i * 5) (.int .i64 (es.getD i nilMl).n) ∧ P (i * 5 + 1) (.int .i64 (es.getD i nilMl).f) ∧ P (i * 5 + 2) (.int .i64 (es.getD i nilMl).t) ∧ P (i * 5 + 3) (es.getD i nilMl).x ∧ P (i * 5 + 4) (.bool (es.getD i nilMl).s)) : P o v := by
  have ho := (List.getElem?_eq_some_iff.1 h).1
  rw [mlCells_length] at ho
  obtain ⟨q, hq, this⟩ : ∃ q, q < es.length ∧ (o = q * 5 ∨ o = q * 5 + 1 ∨ o = q * 5 + 2 ∨ o = q * 5 + 3 ∨ o = q * 5 + 4) := ⟨o / 5, by omega, by omega⟩
  obtain ⟨a1, a2, a3, a4, a5⟩ := mlCells_at es q hq
  obtain ⟨b1, b2, b3, b4, b5⟩ := hP q hq
  rcases this with e | e | e | e | e
  · subst e; rw [a1] at h; cases h; exact b1
  · subst e; rw [a2] at h; cases h; exact b2
  · subst e; rw [a3] at h; cases h; exact b3
  · subst e; rw [a4] at h; cases h; exact b4
  · subst e; rw [a5] at h; cases h; exact b5

/-- Mails of a call's own. -/
structure MlsOw (τ : TypeId) (N : Nat) (w : World) (v : Value) (es : List Ml) : Prop where
  row : w.ownsRow N τ 5 v es.length (mlCells es)
  dat : ∀ e ∈ es, Ow N w e.x e.d

theorem MlsOw.nil (τ : TypeId) (N : Nat) (w : World) : MlsOw τ N w (.slice none 0 0) [] := ⟨World.ownsRow_nil _ _ _ _, by simp⟩
theorem MlsOw.base {τ : TypeId} {N N' : Nat} {w : World} {v : Value} {es : List Ml} (h : MlsOw τ N w v es) (hN : N' ≤ N) : MlsOw τ N' w v es := by
  refine ⟨⟨h.row.1, ?_⟩, fun e he => (h.dat e he).base hN⟩
  rcases h.row.2 with h2 | ⟨g, cap, cur, hv, hg, r⟩
  · exact .inl h2
  · exact .inr ⟨g, cap, cur, hv, by omega, r⟩
theorem MlsOw.shape {τ : TypeId} {N : Nat} {w : World} {v : Value} {es : List Ml} (h : MlsOw τ N w v es) : ∃ va vc, v = .slice va es.length vc ∧ es.length ≤ vc ∧ vc ≤ maxLen := by
  rcases h.row.2 with ⟨hv, h0⟩ | ⟨g, cap, cur, hv, _, _, h1, h2, _⟩
  · rw [h0]; exact ⟨_, _, hv, Nat.le_refl _, by unfold maxLen; omega⟩
  · exact ⟨_, _, hv, h1, h2⟩
theorem MlsOw.lt {τ : TypeId} {N : Nat} {w : World} {v : Value} {es : List Ml} (h : MlsOw τ N w v es) {g : Nat} (hg : v.ownBlock = some g) : N ≤ g ∧ g < w.heap.size := h.row.lt g hg

theorem cell_five_new (w : World) (a b c d f : Value) (t : TypeId) : ∀ j u, [a, b, c, d, f][j]? = some u → (w.alloc (.cells #[a, b, c, d, f] t)).cell? ((⟨w.heap.size, 0, none⟩ : Addr).add j) = some u := by
  intro j u hj
  have hh := heap_alloc_new w (.cells #[a, b, c, d, f] t)
  rw [Addr.add_lit]
  simp only [World.cell?, hh, Nat.zero_add]
  simpa using hj

/-- A mail's bytes lie apart from the row of mails. -/
theorem MlsOw.apart {τ : TypeId} {N M : Nat} {w : World} {v u : Value} {es : List Ml} {d : List UInt8} (h : MlsOw τ N w v es) (hτ : τ ≠ 5) (hO : Ow M w u d) : u.ownBlock = none ∨ u.ownBlock ≠ v.ownBlock := by
  rcases h.row.2 with ⟨hv, -⟩ | ⟨g, cap, cur, hv, hg, hh, -⟩
  · subst hv
    cases hu : u.ownBlock
    · exact .inl rfl
    · exact .inr (by simp [Value.ownBlock])
  · subst hv
    exact .inr (hO.not_at hh hτ)
theorem MlsOw.not_at {τ : TypeId} {N : Nat} {w : World} {v : Value} {es : List Ml} (h : MlsOw τ N w v es) {R : Nat} {cs : Array Value} {t : TypeId} {z : Nat × Nat} (hR : w.heap[R]? = some (.cells cs t z)) (ht : t ≠ τ) : v.ownBlock ≠ some R := by
  rcases h.row.2 with ⟨rfl, _⟩ | ⟨g, cap, cur, rfl, _, hgb, _⟩
  · simp [Value.ownBlock]
  · intro e'
    obtain rfl : g = R := by simpa [Value.ownBlock] using e'
    rw [hR] at hgb
    simp at hgb
    exact ht hgb.2.1
theorem MlsOw.out {τ : TypeId} {X : Nat → Prop} {N : Nat} {w w' : World} {v : Value} {es : List Ml} (h : MlsOw τ N w v es) (hO : Out X w w') (hv : ∀ g, v.ownBlock = some g → ¬ X g) (hd : ∀ e ∈ es, ∀ g, e.x.ownBlock = some g → ¬ X g) : MlsOw τ N w' v es := by
  refine ⟨⟨h.row.1, ?_⟩, fun e he => (h.dat e he).out hO (hd e he)⟩
  rcases h.row.2 with h2 | ⟨g, cap, cur, rfl, hg, hb, r⟩
  · exact .inl h2
  · exact .inr ⟨g, cap, cur, rfl, hg, (hO.block g (Array.getElem?_eq_some_iff.1 hb).1 (hv g rfl)).trans hb, r⟩
theorem MlsOw.below {τ : TypeId} {N : Nat} {w w' : World} {v : Value} {es : List Ml} (h : MlsOw τ N w v es) (hB : Below w.heap.size w w') : MlsOw τ N w' v es :=
  h.out (X := fun _ => False) (Out.of_below hB) (fun _ _ hf => hf) (fun _ _ _ _ hf => hf)
theorem MlsOw.alloc {τ : TypeId} {N : Nat} {w : World} {v : Value} {es : List Ml} (h : MlsOw τ N w v es) (o : Obj) : MlsOw τ N (w.alloc o) v es := ⟨h.row.alloc o, fun e he => (h.dat e he).alloc o⟩

/-- Mails behind others. -/
theorem MlsOw.app {τ : TypeId} {N : Nat} {w w' : World} {v v' : Value} {es fs : List Ml} (h : MlsOw τ N w v es) (hτ : τ ≠ 5) (hO : ∀ e ∈ fs, Ow N w e.x e.d) (hrow : w'.ownsRow N τ 5 v' (es.length + fs.length) (mlCells es ++ mlCells fs)) (hg : w.grownBy w' v.ownBlock) : MlsOw τ N w' v' (es ++ fs) := by
  refine ⟨?_, fun x hx => ?_⟩
  · rw [mlCells_append, List.length_append]
    exact hrow
  · rcases List.mem_append.1 hx with hx | hx
    · exact (h.dat x hx).kept hg (h.apart hτ (h.dat x hx))
    · exact (hO x hx).kept hg (h.apart hτ (hO x hx))

/-- Mails of a call's own, as a walk reads them. -/
theorem MlsOw.at {τ : TypeId} {N : Nat} {w : World} {va : Option Addr} {vc : Nat} {es : List Ml} (h : MlsOw τ N w (.slice va es.length vc) es) : MlsAt w.heap.size w va es := by
  by_cases hz : es = []
  · exact .inl hz
  · have hp := List.length_pos_iff.2 hz
    rcases h.row.2 with ⟨_, h0⟩ | ⟨g, cap, cur, hv, hg, hh, h1, h2, h3, h4⟩
    · omega
    · cases hv
      refine .inr ⟨g, 0, rfl, (Array.getElem?_eq_some_iff.1 hh).1, fun i hi => ?_⟩
      have hcell : ∀ o v, o < es.length * 5 → (mlCells es)[o]? = some v → w.cell? ⟨g, o, none⟩ = some v := fun o v ho hv => by
        simp only [World.cell?, hh]
        have : (cur.toList.take (es.length * 5))[o]? = some v := by rw [h4]; exact hv
        rw [List.getElem?_take, if_pos ho] at this
        simpa using this
      obtain ⟨a1, a2, a3, a4, a5⟩ := mlCells_at es i hi
      have hmem : es.getD i nilMl ∈ es := by rw [List.getD_eq_getElem?_getD, List.getElem?_eq_getElem hi]; exact List.getElem_mem hi
      rw [Nat.zero_add]
      exact ⟨hcell _ _ (by omega) a1, hcell _ _ (by omega) a2, hcell _ _ (by omega) a3, hcell _ _ (by omega) a4, hcell _ _ (by omega) a5, (h.dat _ hmem).sl (Nat.le_refl _)⟩

/-- A type of mails (5 cells), and the type of rows of it. -/
structure TyM (σ τ : TypeId) : Prop where
  und : Try.prog.underlying σ = some (.slice τ)
  inf : (Try.prog.info? τ).map (fun i => (i.zero, i.size, i.bytes)) = some (some (.agg #[.int .i64 0, .int .i64 0, .int .i64 0, .slice none 0 0, .bool false]), 5, 56)
  ne : τ ≠ 5
theorem tyM : TyM 33 41 := ⟨Try.underlying33, by kernel_rfl, by decide⟩
theorem tyR : TyM 36 58 := ⟨Try.underlying36, by kernel_rfl, by decide⟩

/-- Cells of mails that lie somewhere. -/
theorem mls_news {N : Nat} {w : World} {b off : Nat} {fs : List Ml} (h : MlsAt N w (some ⟨b, off, none⟩) fs) : ∀ j u, (mlCells fs)[j]? = some u → w.cell? ((⟨b, off, none⟩ : Addr).add j) = some u := by
  intro j u hj
  rw [Addr.add_lit]
  refine mlCells_of fs j u hj (fun j u => w.cell? ⟨b, off + j, none⟩ = some u) (fun i hi => ?_)
  obtain ⟨b', off', ha, hb, hc⟩ := h.at hi
  cases ha
  exact ⟨hc.1, by rw [← Nat.add_assoc]; exact hc.2.1, by rw [← Nat.add_assoc]; exact hc.2.2.1, by rw [← Nat.add_assoc]; exact hc.2.2.2.1, by rw [← Nat.add_assoc]; exact hc.2.2.2.2.1⟩

theorem run_append_mls {σ τ : TypeId} (hT : TyM σ τ) (ty : TypeId) (w : World) (N M : Nat) (v : Value) (xa : Option Addr) (xc : Nat) (es fs : List Ml) (hv : w.ownsRow N τ 5 v es.length (mlCells es)) (hx : MlsAt M w xa fs) (hlen : es.length + fs.length ≤ 1000000000) (hN : N ≤ w.heap.size) :
    ∃ v' w', (Builtin.append_ #[σ, σ] ty #[v, .slice xa fs.length xc]).run Try.prog w = .ok v' w' ∧ w'.ownsRow N τ 5 v' (es.length + fs.length) (mlCells es ++ mlCells fs) ∧ w.grownBy w' v.ownBlock ∧ (v'.ownBlock = v.ownBlock ∨ v'.ownBlock = some w.heap.size) := by
  obtain ⟨i0, hi, hz0, hz1, hz2⟩ := info_parts hT.inf
  have key : ∀ ad : Addr, (∀ j u, (mlCells fs)[j]? = some u → w.cell? (ad.add j) = some u) → ∃ v' w', (Builtin.append_ #[σ, σ] ty #[v, .slice (some ad) fs.length xc]).run Try.prog w = .ok v' w' ∧ w'.ownsRow N τ 5 v' (es.length + fs.length) (mlCells es ++ mlCells fs) ∧ w.grownBy w' v.ownBlock ∧ (v'.ownBlock = v.ownBlock ∨ v'.ownBlock = some w.heap.size) := by
    intro ad had
    obtain ⟨v', w', r1, r2, r3, _, r5⟩ := run_append_own_at (P := Try.prog) w N σ ty τ i0 _ 5 56 hT.und hi hz0 hz1 hz2 rfl (by decide) v es.length (mlCells es) hv ad fs.length xc (mlCells fs) (mlCells_length fs) had (mlCells_one fs) (by unfold maxLen; omega) (by omega) hN
    exact ⟨v', w', r1, r2, r3, r5⟩
  rcases id hx with rfl | ⟨b, off, rfl, hb, hc⟩
  · cases xa with
    | none =>
      refine ⟨v, w, ?_, by simpa [mlCells] using hv, grown_refl w _, .inl rfl⟩
      rcases hv.2 with ⟨rfl, _⟩ | ⟨g, cap', cur, rfl, _, _, hnc, _⟩
      · simp [Builtin.append_, run_underlying hT.und, sizeOf, typeInfo, hi, Builtin.lenOf, Builtin.firstCells]
      · simp [Builtin.append_, run_underlying hT.und, sizeOf, typeInfo, hi, Builtin.lenOf, Builtin.firstCells, hnc, storeCells]
    | some ad => exact key ad (by simp [mlCells])
  · exact key _ (mls_news hx)

/-- An append of mails onto mails of the call's own, as a law of the walk. -/
theorem wpList_append_mls {σ τ : TypeId} (hT : TyM σ τ) {ops : Array Oper} {rest : List Oper} {o : Oper} {a : Act} {Q : Exit → Act → World → Prop} {w : World} (hgd : o.guard = none) (s x : Operand)
    (ho : o.op = .call { callee := .builtin .append, args := #[s, x], argTypes := #[σ, σ] })
    (N M : Nat) (v : Value) (xa : Option Addr) (xc : Nat) (es fs : List Ml) (hs : a.eval s = v) (hv : w.ownsRow N τ 5 v es.length (mlCells es)) (hx : a.eval x = .slice xa fs.length xc) (hsl : MlsAt M w xa fs) (hlen : es.length + fs.length ≤ 1000000000) (hN : N ≤ w.heap.size)
    (h : ∀ v' w', w'.ownsRow N τ 5 v' (es.length + fs.length) (mlCells es ++ mlCells fs) → w.grownBy w' v.ownBlock → (v'.ownBlock = v.ownBlock ∨ v'.ownBlock = some w.heap.size) → wpList Try.prog ops Q rest (a.put o.dst v') w') :
    wpList Try.prog ops Q (o :: rest) a w := by
  refine wpList_plain hgd fun K hK => ?_
  obtain ⟨v', w', hr, h2, h3, h4⟩ := run_append_mls hT o.type w N M v xa xc es fs hv hsl hlen hN
  unfold Oper.wp execOp
  simp only [ho, resolve, invoke, builtin, Sem.run_bind, Sem.run_pure, Result.andThen_ok, List.map_toArray, List.map_cons, List.map_nil, hs, hx, hr]
  exact hK _ _ (h v' w' h2 h3 h4)

/-- One mail that is written out. -/
theorem mls_one (τ : TypeId) (w : World) (e : Ml) (N : Nat) (hs : Sl N w e.x e.d) (hNN : N ≤ w.heap.size) : MlsAt (w.heap.size + 1) (w.alloc (.cells #[.int .i64 e.n, .int .i64 e.f, .int .i64 e.t, e.x, .bool e.s] τ)) (some ⟨w.heap.size, 0, none⟩) [e] := by
  refine .inr ⟨_, _, rfl, by omega, fun i hi => ?_⟩
  have hh : (w.alloc (.cells #[.int .i64 e.n, .int .i64 e.f, .int .i64 e.t, e.x, .bool e.s] τ)).heap[w.heap.size]? = some (.cells #[.int .i64 e.n, .int .i64 e.f, .int .i64 e.t, e.x, .bool e.s] τ) := heap_alloc_new w _
  have : i = 0 := by simpa using hi
  subst this
  refine ⟨?_, ?_, ?_, ?_, ?_, ((hs.below ((Below.refl _ w).alloc hNN _)).mono (by omega))⟩
  all_goals (simp only [World.cell?, hh]; rfl)

theorem drop_at {l : List Ml} {k : Nat} (h : k < l.length) : l.drop k = l.getD k nilMl :: l.drop (k + 1) := by
  rw [List.drop_eq_getElem_cons h, List.getD_eq_getElem?_getD, List.getElem?_eq_getElem h]; rfl
theorem take_succ' {l : List Ml} {k : Nat} (h : k < l.length) : l.take (k + 1) = l.take k ++ [l.getD k nilMl] := by
  rw [List.take_add_one, List.getD_eq_getElem?_getD, List.getElem?_eq_getElem h]; rfl
theorem getD_mem' {E : List Ml} {k : Nat} (h : k < E.length) : E.getD k nilMl ∈ E := by
  rw [List.getD_eq_getElem?_getD, List.getElem?_eq_getElem h]; exact List.getElem_mem h
theorem says_getD (es : List Ml) (k : Nat) : (es.map Ml.says).getD k nilMa = (es.getD k nilMl).says := by
  simp only [List.getD_eq_getElem?_getD, List.getElem?_map]
  cases es[k]? <;> rfl

theorem cells5 {w : World} {b : Nat} {t : TypeId} {v0 v1 v2 v3 v4 : Value} (h : w.heap[b]? = some (.cells #[v0, v1, v2, v3, v4] t (0, 0))) :
    (w.cell? ⟨b, 0, none⟩ = some v0 ∧ w.cell? ⟨b, 1, none⟩ = some v1 ∧ w.cell? ⟨b, 2, none⟩ = some v2 ∧ w.cell? ⟨b, 3, none⟩ = some v3 ∧ w.cell? ⟨b, 4, none⟩ = some v4) ∧ ∀ o, w.frozen? ⟨b, o, none⟩ = false := by
  refine ⟨⟨?_, ?_, ?_, ?_, ?_⟩, ?_⟩
  all_goals (first | (simp only [World.cell?, h]; rfl) | skip)
  intro o
  simp [World.frozen?, h]

theorem set5 {w : World} {B : Nat} {x0 x1 x2 x3 x4 : Value} {t : TypeId} (h : w.heap[B]? = some (.cells #[x0, x1, x2, x3, x4] t (0, 0))) (y0 y1 y2 y3 y4 : Value) :
    (((((w.setCell ⟨B, 0, none⟩ y0).setCell ⟨B, 1, none⟩ y1).setCell ⟨B, 2, none⟩ y2).setCell ⟨B, 3, none⟩ y3).setCell ⟨B, 4, none⟩ y4).heap[B]? = some (.cells #[y0, y1, y2, y3, y4] t (0, 0)) := by
  rw [heap_set (heap_set (heap_set (heap_set (heap_set h 0 y0) 1 y1) 2 y2) 3 y3) 4 y4]; rfl
theorem results_M {fn : Func} {t : Tmp} {τ : TypeId} (hτ : τ = 41 ∨ τ = 58) (h : fn.results = #[.cell t τ]) (tmps : Array Value) (w : World) (B : Nat) {x0 x1 x2 x3 x4 : Value} (ht : tmps.getD t undef = .pointer (some ⟨B, 0, none⟩)) (hb : w.heap[B]? = some (.cells #[x0, x1, x2, x3, x4] τ (0, 0))) :
    (results fn tmps).run Try.prog w = .ok (.agg #[x0, x1, x2, x3, x4]) w := by
  obtain ⟨⟨c0, c1, c2, c3, c4⟩, -⟩ := cells5 hb
  have ht' : tmps[t]?.getD undef = .pointer (some ⟨B, 0, none⟩) := by rw [← Array.getD_eq_getD_getElem?]; exact ht
  rcases hτ with rfl | rfl
  · simp [results, h, ht', asAddr, loadVar, c0, c1, c2, c3, c4, go_sem]
  · simp [results, h, ht', asAddr, loadVar, c0, c1, c2, c3, c4, go_sem]
theorem results_Mb {fn : Func} {t t2 : Tmp} {τ : TypeId} (hτ : τ = 41 ∨ τ = 58) (h : fn.results = #[.cell t τ, .tmp t2]) (tmps : Array Value) (w : World) (B : Nat) {x0 x1 x2 x3 x4 y : Value} (ht : tmps.getD t undef = .pointer (some ⟨B, 0, none⟩)) (hy : tmps.getD t2 undef = y) (hb : w.heap[B]? = some (.cells #[x0, x1, x2, x3, x4] τ (0, 0))) :
    (results fn tmps).run Try.prog w = .ok (.tuple #[.agg #[x0, x1, x2, x3, x4], y]) w := by
  obtain ⟨⟨c0, c1, c2, c3, c4⟩, -⟩ := cells5 hb
  have ht' : tmps[t]?.getD undef = .pointer (some ⟨B, 0, none⟩) := by rw [← Array.getD_eq_getD_getElem?]; exact ht
  have hy' : tmps[t2]?.getD undef = y := by rw [← Array.getD_eq_getD_getElem?]; exact hy
  rcases hτ with rfl | rfl
  · simp [results, h, ht', hy', asAddr, loadVar, c0, c1, c2, c3, c4, go_sem]
  · simp [results, h, ht', hy', asAddr, loadVar, c0, c1, c2, c3, c4, go_sem]
end Go.Proofs.Ytefbfjlmhfmiiaa
