/-
  Operations in memory; few, made; the chapter's example.
-/
import Derived.Test.YtbjnhohfdpdcnaaC8
import Derived.Test.YtbjnhohfdpdcnaaC7
namespace Go.Proofs.Ytbjnhohfdpdcnaa
open Go.RowKit
set_option linter.unusedVariables false

def OpAt (N : Nat) (w : World) (b off : Nat) (o : Opn) : Prop :=
  (w.cell? ⟨b, off, none⟩ = some (.int .i64 o.kd) ∧ w.cell? ⟨b, off + 1, none⟩ = some (.int .i64 o.n) ∧ w.cell? ⟨b, off + 2, none⟩ = some (.string ⟨o.nm.toArray⟩) ∧ w.cell? ⟨b, off + 3, none⟩ = some (.string ⟨o.to.toArray⟩) ∧ w.cell? ⟨b, off + 4, none⟩ = some o.x) ∧
  Sl N w o.x o.b ∧ o.nm.length ≤ maxLen ∧ o.to.length ≤ maxLen ∧ o.n < 9223372036854775808
/-- A list of operations, in blocks below N. -/
def OpsAt (N : Nat) (w : World) (a : Option Addr) (os : List Opn) : Prop :=
  os = [] ∨ ∃ b off, a = some ⟨b, off, none⟩ ∧ b < N ∧ ∀ i, i < os.length → OpAt N w b (off + i * 5) (os.getD i nilOp)
theorem OpAt.below {N : Nat} {w w' : World} {b off : Nat} {o : Opn} (h : OpAt N w b off o) (hb : b < N) (hB : Below N w w') : OpAt N w' b off o :=
  ⟨⟨(hB.cell (p := ⟨b, off, none⟩) hb).trans h.1.1, (hB.cell (p := ⟨b, off + 1, none⟩) hb).trans h.1.2.1, (hB.cell (p := ⟨b, off + 2, none⟩) hb).trans h.1.2.2.1, (hB.cell (p := ⟨b, off + 3, none⟩) hb).trans h.1.2.2.2.1, (hB.cell (p := ⟨b, off + 4, none⟩) hb).trans h.1.2.2.2.2⟩, h.2.1.below hB, h.2.2⟩
theorem OpsAt.below {N : Nat} {w w' : World} {a : Option Addr} {os : List Opn} (h : OpsAt N w a os) (hB : Below N w w') : OpsAt N w' a os := by
  rcases h with h | ⟨b, off, ha, hb, hc⟩
  · exact .inl h
  · exact .inr ⟨b, off, ha, hb, fun i hi => (hc i hi).below hb hB⟩
theorem OpsAt.at {N : Nat} {w : World} {a : Option Addr} {os : List Opn} (h : OpsAt N w a os) {i : Nat} (hi : i < os.length) : ∃ b off, a = some ⟨b, off, none⟩ ∧ b < N ∧ OpAt N w b (off + i * 5) (os.getD i nilOp) := by
  rcases h with h | ⟨b, off, ha, hb, hc⟩
  · subst h; simp at hi
  · exact ⟨b, off, ha, hb, hc i hi⟩
theorem take_op {os : List Opn} {k : Nat} (h : k < os.length) : os.take (k + 1) = os.take k ++ [os.getD k nilOp] := by
  rw [List.take_succ_eq_append_getElem h, List.getD_eq_getElem?_getD, List.getElem?_eq_getElem h]; rfl

/-- It answers a truth. -/
def SomeB (e : Ending) : Prop := ∃ b : Bool, e = .returned (.bool b)
theorem someB {e : Ending} (b : Bool) (h : e = .returned (.bool b)) : SomeB e := ⟨b, h⟩

set_option maxRecDepth 100000 in
set_option maxHeartbeats 8000000 in
theorem few_any (a : Option Addr) (c : Nat) (os : List Opn) (N : Nat) (w : World) (h : OpsAt N w a os) (hN : N ≤ w.heap.size) (hz : os.length ≤ 9223372036854775807) :
    Calls Try.prog 10 #[.slice a os.length c] w fun e w' => SomeB e ∧ Below w.heap.size w w' := by
  have H1 : Hid (OpsAt N w a os) := h
  clear h
  go_enter Try.func10, Try.ntmps10
  go_wp2
  go_loopw [3, 4] (fun sv iv wr => ∃ (k : Nat) (m : Int), iv = .int .i64 (k : Int) ∧ sv = .int .i64 m ∧ k ≤ os.length ∧ Below w.heap.size w wr) (fun _ iv _ => os.length - (intOf iv).toNat)
  case atStart => exact ⟨0, 0, rfl, rfl, Nat.zero_le _, Below.refl _ _⟩
  case round =>
    obtain ⟨k, m, rfl, rfl, hk, hB⟩ := hrel
    have HB : Hid (Below w.heap.size w wr) := hB
    by_cases hlt : k < os.length
    · have hi0 : (k : Int) < (os.length : Int) := by omega
      by_cases h4 : k < 400
      · have hi4 : (k : Int) < 400 := by omega
        obtain ⟨b, off, rfl, hb, ho⟩ := H1.out.at hlt
        obtain ⟨⟨c0, c1, c2, c3, c4⟩, -, q1, q2, -⟩ := ho.below hb (hB.mono hN)
        have q3 : (os.getD k nilOp).b.length ≤ 9223372036854775807 := by
          obtain ⟨_, _, _, h5, h6, _⟩ := ho.2.1
          unfold maxLen at h6
          omega
        unfold Opn.x at c4
        generalize (os.getD k nilOp).nm = nm at *
        generalize (os.getD k nilOp).to = to at *
        generalize (os.getD k nilOp).b = bb at *
        unfold maxLen at q1 q2
        clear ho hB
        have hk0 : (0 : Int) ≤ (k : Int) := by omega
        rcases Int.lt_or_le 20000 (nm.length : Int) with h1 | h1 <;> rcases Int.lt_or_le 20000 (to.length : Int) with h2 | h2 <;> rcases Int.lt_or_le 20000 (bb.length : Int) with h3 | h3
        all_goals (go_wp2_with fail; go_quiet (fail); go_wp2; exact ⟨⟨k + 1, _, by go_num, rfl, by omega, HB.out.trans ⟨rfl, rfl, rfl, Nat.le_refl _, fun _ _ => rfl⟩⟩, by simp [intOf]; omega⟩)
      · have hi4 : decide ((k : Int) < 400) = false := by simp; omega
        by_cases h5 : (os.length : Int) ≤ 400
        · go_wp2
          go_ret
          exact ⟨someB _ rfl, HB.out⟩
        · have h5' : decide ((os.length : Int) ≤ 400) = false := by simpa using h5
          go_wp2
          go_ret
          exact ⟨someB _ rfl, HB.out⟩
    · have hi0 : decide ((k : Int) < (os.length : Int)) = false := by simp; omega
      by_cases h5 : (os.length : Int) ≤ 400
      · go_wp2
        go_ret
        exact ⟨someB _ rfl, HB.out⟩
      · have h5' : decide ((os.length : Int) ≤ 400) = false := by simpa using h5
        go_wp2
        go_ret
        exact ⟨someB _ rfl, HB.out⟩

/-- The disk behind operations. -/
def madeP (os : List Opn) : PD := os.foldl (fun p o => (toldP p o).2) ⟨[], 0, false⟩
theorem madeP_step {os : List Opn} {k : Nat} (h : k < os.length) : madeP (os.take (k + 1)) = (toldP (madeP (os.take k)) (os.getD k nilOp)).2 := by
  unfold madeP
  rw [take_op h, List.foldl_append]; rfl

/-- Block d is a disk p, in memory from N on. -/
def Dsk (N : Nat) (w : World) (S : Nat → Prop) (d : Nat) (p : PD) : Prop := ∃ k, DkC S w d k ∧ k.pd = p ∧ ∀ i, S i → N ≤ i
theorem Dsk.below {N : Nat} {S : Nat → Prop} {w w' : World} {d : Nat} {p : PD} (h : Dsk N w S d p) (hB : Below w.heap.size w w') : Dsk N w' S d p := by
  obtain ⟨k, h1, h2, h3⟩ := h
  exact ⟨k, h1.out (X := fun _ => False) (Out.of_below hB) (fun _ _ hf => hf), h2, h3⟩
theorem Dsk.out {N : Nat} {S X : Nat → Prop} {w w' : World} {d : Nat} {p : PD} (h : Dsk N w S d p) (hO : Out X w w') (hx : ∀ i, S i → ¬ X i) : Dsk N w' S d p := by
  obtain ⟨k, h1, h2, h3⟩ := h
  exact ⟨k, h1.out hO hx, h2, h3⟩
theorem Dsk.inn {N : Nat} {S : Nat → Prop} {w : World} {d : Nat} {p : PD} (h : Dsk N w S d p) : ∀ i, S i → i < w.heap.size := h.choose_spec.1.inn
theorem Dsk.from {N : Nat} {S : Nat → Prop} {w : World} {d : Nat} {p : PD} (h : Dsk N w S d p) : ∀ i, S i → N ≤ i := h.choose_spec.2.2

/-- Behind an operation. -/
structure Then (N : Nat) (S : Nat → Prop) (w w' : World) (d : Nat) (p : PD) : Prop where
  dsk : Dsk N w' (grew S w w') d p
  out : Out S w w'
  bel : Below N w w'
theorem Then.of {N : Nat} {S : Nat → Prop} {w w' : World} {d : Nat} {k' : DS} {p : PD} (h : At S w w' d k') (hp : k'.pd = p) (hS : ∀ i, S i → N ≤ i) (hN : N ≤ w.heap.size) : Then N S w w' d p :=
  ⟨⟨k', h.dk, hp, fun i hi => hi.elim (hS i) (fun h9 => Nat.le_trans hN h9.1)⟩, h.out, h.out.below hN hS⟩

theorem told_dsk {N : Nat} {S : Nat → Prop} {w : World} {d : Nat} {p : PD} (h : Dsk N w S d p) (hN : N ≤ w.heap.size) (o : Opn) (hx : Sl N w o.x o.b) (h1 : o.nm.length ≤ maxLen) (h2 : o.to.length ≤ maxLen) (h3 : o.n < 9223372036854775808) :
    Calls Try.prog 31 #[.pointer (some ⟨d, 0, none⟩), .agg #[.int .i64 o.kd, .int .i64 o.n, .string ⟨o.nm.toArray⟩, .string ⟨o.to.toArray⟩, o.x]] w fun r w' => r = .returned (.int .i64 ((toldP p o).1 : Int)) ∧ Then N S w w' d (toldP p o).2 := by
  obtain ⟨k, hk, rfl, hS⟩ := h
  refine (told_any hk o (hx.slx hN hS) h1 h2 h3).mono ?_
  rintro r w' ⟨k', rfl, hA, hp⟩
  exact ⟨rfl, Then.of hA hp hS hN⟩
theorem crash_dsk {N : Nat} {S : Nat → Prop} {w : World} {d : Nat} {p : PD} (h : Dsk N w S d p) (hN : N ≤ w.heap.size) (keep : Int) :
    Calls Try.prog 28 #[.pointer (some ⟨d, 0, none⟩), .int .i64 keep] w fun r w' => r = .returned (.tuple #[]) ∧ Then N S w w' d (doCrash p keep) := by
  obtain ⟨k, hk, rfl, hS⟩ := h
  refine (crash_any hk keep).mono ?_
  rintro r w' ⟨k', rfl, hA, hp⟩
  exact ⟨rfl, Then.of hA hp hS hN⟩
theorem says_pd (k : DS) : k.rs.map Rw.says = k.pd.fs.map PF.says := by
  show _ = (k.rs.map (Rw.pf k.last)).map PF.says
  rw [List.map_map]; rfl
theorem files_dsk {N : Nat} {S : Nat → Prop} {w : World} {d : Nat} {p : PD} (h : Dsk N w S d p) :
    Calls Try.prog 27 #[.pointer (some ⟨d, 0, none⟩)] w fun r w' => ∃ a c fs, r = .returned (.slice a fs.length c) ∧ FlsAt w'.heap.size w' a fs ∧ saysF fs = p.fs.map PF.says ∧ fs.length ≤ 256 ∧ Below w.heap.size w w' := by
  obtain ⟨k, hk, rfl, hS⟩ := h
  refine (files_any hk).mono ?_
  rintro r w' ⟨v, fs, rfl, hF, hs, hB⟩
  obtain ⟨a, c, rfl, _, _, hat⟩ := hF.at
  refine ⟨a, c, fs, rfl, hat, by rw [← says_pd]; exact hs, ?_, hB⟩
  have := congrArg List.length hs
  simp at this
  have := hk.few
  omega
theorem down_dsk {N : Nat} {S : Nat → Prop} {w : World} {d : Nat} {p : PD} (h : Dsk N w S d p) : Calls Try.prog 29 #[.pointer (some ⟨d, 0, none⟩)] w fun r w' => r = .returned (.bool p.dn) ∧ w' = w := by
  obtain ⟨k, hk, rfl, hS⟩ := h
  exact down_any hk
theorem new_dsk (N : Nat) (w : World) (hN : N ≤ w.heap.size) : Calls Try.prog 11 #[] w fun r w' => r = .returned (.pointer (some ⟨w.heap.size + 1, 0, none⟩)) ∧ Dsk N w' (fun i => w.heap.size ≤ i ∧ i < w.heap.size + 2) (w.heap.size + 1) ⟨[], 0, false⟩ ∧ Below w.heap.size w w' := by
  refine (new_any w).mono ?_
  rintro r w' ⟨rfl, rfl⟩
  exact ⟨rfl, ⟨_, new_dk w, rfl, fun i hi => by omega⟩, ((Below.refl _ w).alloc (Nat.le_refl _) _).alloc (by simp) _⟩

set_option maxRecDepth 100000 in
set_option maxHeartbeats 8000000 in
theorem made_any (a : Option Addr) (c : Nat) (os : List Opn) (N : Nat) (w : World) (h : OpsAt N w a os) (hN : N ≤ w.heap.size) (hz : os.length ≤ 9223372036854775807) :
    Calls Try.prog 26 #[.slice a os.length c] w fun e w' => ∃ d S, e = .returned (.pointer (some ⟨d, 0, none⟩)) ∧ Dsk w.heap.size w' S d (madeP os) ∧ Below w.heap.size w w' := by
  have H1 : Hid (OpsAt N w a os) := h
  clear h
  have hnew := new_dsk w.heap.size w (Nat.le_refl _)
  go_enter Try.func26, Try.ntmps26
  go_wp2_with (go_at_call 11; refine hnew.mono ?_; rintro e w1 ⟨rfl, hd1, hB1⟩)
  go_loopw [4] (fun iv wr => ∃ (k : Nat) (S : Nat → Prop), iv = .int .i64 (k : Int) ∧ k ≤ os.length ∧ Dsk w.heap.size wr S (w.heap.size + 1) (madeP (os.take k)) ∧ Below w.heap.size w wr) (fun iv _ => os.length - (intOf iv).toNat)
  case atStart => exact ⟨0, _, rfl, Nat.zero_le _, hd1, hB1⟩
  case round =>
    obtain ⟨k, S, rfl, hk, hD, hB⟩ := hrel
    have HB : Hid (Below w.heap.size w wr) := hB
    by_cases hlt : k < os.length
    · have hi0 : (k : Int) < (os.length : Int) := by omega
      obtain ⟨b, off, rfl, hb, ho⟩ := H1.out.at hlt
      obtain ⟨⟨c0, c1, c2, c3, c4⟩, q0, q1, q2, q3⟩ := ho.below hb (hB.mono hN)
      have ht := told_dsk hD hB.size (os.getD k nilOp) (q0.mono hN) q1 q2 q3
      have HM : Hid (madeP (os.take (k + 1)) = (toldP (madeP (os.take k)) (os.getD k nilOp)).2) := madeP_step hlt
      generalize os.getD k nilOp = o at *
      obtain ⟨kd, n, nm, to, oa, oc, ob⟩ := o
      unfold Opn.x at c4 ht
      simp only at c0 c1 c2 c3 c4 ht
      clear ho hB q0 q1 q2 q3 hD
      go_wp2_with (go_at_call 31; refine ht.mono ?_; rintro e w5 ⟨rfl, hT⟩)
      exact ⟨⟨k + 1, _, by go_num, by omega, by rw [HM.out]; exact hT.dsk, HB.out.trans hT.bel⟩, by simp [intOf]; omega⟩
    · have HE : Hid (os.take k = os) := List.take_of_length_le (by omega)
      go_wp2
      go_ret
      rw [HE.out] at hD
      exact ⟨_, S, rfl, hD, HB.out⟩

end Go.Proofs.Ytbjnhohfdpdcnaa
