/-
  Where the document's search stands as a map's key; what is known to fail.
-/
import Derived.Test.YtbcnpdpdflkanaaDq
namespace Go.Proofs.Ytbcnpdpdflkanaa
open Go.RowKit

theorem keyedA : Maps.Keyed Try.prog 64 := Maps.Keyed.of_law (deep_law_laid laidOut (m := 2) (by omega) (of_decide_eq_true (by kernel_rfl)) (by kernel_rfl) (by kernel_rfl))
theorem lits_i {n d : Nat} (hd : d < 4096) : Try.prog.keyLits (n + 1) 3 [.int .i64 (d : Int)] = some [.int .i64 (d : Int)] := by
  have hw : (Lit.int .i64 (d : Int)).wf = true := wf_i64 (by omega) (by omega)
  simp only [Program.keyLits, Try.underlying3, hw, and_self, if_true]
theorem cellsI' : Try.prog.cellsOf 3 = 1 := by kernel_rfl
theorem cellsA : Try.prog.cellsOf 64 = 3 := by kernel_rfl
theorem keyTA : Try.prog.keyType 64 = true := by kernel_rfl
def ka (d : Nat) (th : Bool) (v : Bs) : Lit := .string (keyBytes [.int .i64 (d : Int), .bool th, .string v])
theorem ka_eq {d : Nat} (hd : d < 4096) (th : Bool) {v : Bs} (hv : v.length ≤ maxLen) : keyOf Try.prog 64 (atV d th v) = some (ka d th v) := by
  obtain ⟨n, hn⟩ := sizeT
  have h1 : Try.prog.keyLits (n + 1 + 1) 64 [.int .i64 (d : Int), .bool th, str v] = some [.int .i64 (d : Int), .bool th, .string v] := by
    unfold Program.keyLits
    simp only [Try.underlying64, cellsA]
    rw [if_pos ⟨rfl, by kernel_rfl⟩]
    simp [cellsI', cellsB, cellsS, lits_i hd, lits_b th, lits_s hv]
  unfold keyOf atV ka
  simp only [Try.underlying64, keyTA, Bool.true_and, Value.formed, cellsA, hn]
  rw [if_pos (by rfl)]
  have h2 : (Value.agg #[.int .i64 (d : Int), .bool th, str v]).cells.toList = [.int .i64 (d : Int), .bool th, str v] := rfl
  rw [h2, h1]
  rfl
theorem ka_inj {d d' : Nat} {th th' : Bool} {v v' : Bs} (hd : d < 4096) (hv : v.length ≤ maxLen) (hd' : d' < 4096) (hv' : v'.length ≤ maxLen) (h : ka d th v = ka d' th' v') : d = d' ∧ th = th' ∧ v = v' := by
  have h1 := ka_eq hd th hv
  have h2 := ka_eq hd' th' hv'
  rw [h] at h1
  have := keyedA.inj h1 h2
  unfold atV str at this
  simp at this
  exact ⟨by omega, this.2.1, this.2.2⟩
/-- What is marked as failing fails. -/
structure Fa (h : List Lo) (ns : List Nat) (D : DataW Unit) : Prop where
  isMap : Maps.IsMap D
  no : ∀ d th v, d < 4096 → v.length ≤ maxLen → D.atKey (ka d th v) (.lit (.int .i64 0)) = .lit (.int .i64 0) ∨ IsL (L h ns) d.testBit th v none
theorem Fa.nil (h : List Lo) (ns : List Nat) : Fa h ns (.map []) := ⟨⟨[], rfl⟩, fun _ _ _ _ _ => .inl rfl⟩
theorem Fa.put {h : List Lo} {ns : List Nat} {D : DataW Unit} (hF : Fa h ns D) {d : Nat} {th : Bool} {v : Bs} (hd : d < 4096) (hv : v.length ≤ maxLen) (hn : IsL (L h ns) d.testBit th v none) : Fa h ns (D.put (ka d th v) (.lit (.int .i64 1))) := by
  refine ⟨?_, fun d' th' v' hd' hv' => ?_⟩
  · obtain ⟨es, rfl⟩ := hF.isMap; exact ⟨_, rfl⟩
  · by_cases e : ka d' th' v' = ka d th v
    · obtain ⟨rfl, rfl, rfl⟩ := ka_inj hd' hv' hd hv e
      exact .inr hn
    · rw [Maps.atKey_put_other e]
      exact hF.no d' th' v' hd' hv'
theorem or_add : ∀ (i d : Nat), d.testBit i = false → d ||| 2 ^ i = d + 2 ^ i
  | 0, d, h => by
    have h0 : d % 2 = 0 := by
      rw [Nat.testBit_eq_decide_div_mod_eq] at h
      simp at h
      omega
    have h1 : (d ||| 1) / 2 = d / 2 := by rw [Nat.or_div_two]; simp
    have h2 : (d ||| 1) % 2 = 1 := by rw [Nat.or_mod_two_eq_one]; simp
    show d ||| 1 = d + 1
    omega
  | i + 1, d, h => by
    have hi : (d / 2).testBit i = false := by rw [Nat.testBit_succ] at h; exact h
    have ih := or_add i (d / 2) hi
    have h1 : (d ||| 2 ^ (i + 1)) / 2 = d / 2 ||| 2 ^ i := by
      rw [Nat.or_div_two, Nat.pow_succ, Nat.mul_div_cancel _ (by omega)]
    have h3 : (2 : Nat) ^ (i + 1) % 2 = 0 := by rw [Nat.pow_succ]; omega
    have h2 : (d ||| 2 ^ (i + 1)) % 2 = d % 2 := by
      rcases Nat.mod_two_eq_zero_or_one (d ||| 2 ^ (i + 1)) with e | e
      · rcases Nat.mod_two_eq_zero_or_one d with e2 | e2
        · omega
        · have := (Nat.or_mod_two_eq_one (a := d) (b := 2 ^ (i + 1))).2 (.inl e2)
          omega
      · have := (Nat.or_mod_two_eq_one (a := d) (b := 2 ^ (i + 1))).1 e
        omega
    have h4 : (2 : Nat) ^ (i + 1) = 2 ^ i * 2 := Nat.pow_succ ..
    omega
theorem mapOut {X : Nat → Prop} {w w' : World} {b n : Nat} {D : DataW Unit} (h : w.ownsMap Try.prog 64 (plainElem Try.prog 3) b n D) (hO : Out X w w') (hx : ¬ X b) : w'.ownsMap Try.prog 64 (plainElem Try.prog 3) b n D := by
  obtain ⟨es, clock, hb, r⟩ := h
  exact ⟨es, clock, (hO.block b (Array.getElem?_eq_some_iff.1 hb).1 hx).trans hb, r⟩
theorem mapLt {w : World} {b n : Nat} {D : DataW Unit} (h : w.ownsMap Try.prog 64 (plainElem Try.prog 3) b n D) : b < w.heap.size := by
  obtain ⟨es, clock, hb, r⟩ := h
  exact (Array.getElem?_eq_some_iff.1 hb).1
/-- A look into the map, in any world in which it lies so. -/
theorem map_look {W : World} {b n : Nat} {D : DataW Unit} (h : W.ownsMap Try.prog 64 (plainElem Try.prog 3) b n D) {d : Nat} (hd : d < 4096) (th : Bool) {v : Bs} (hv : v.length ≤ maxLen) :
    ∃ c : Int, D.atKey (ka d th v) (.lit (.int .i64 0)) = .lit (.int .i64 c) ∧ ∀ z : Cw W, (Instr.lookup 59 (.map (some b)) (.agg #[.int .i64 (d : Int), .bool th, .string ⟨v.toArray⟩]) false).run Try.prog z.w = .ok (.int .i64 c) z.w := by
  obtain ⟨c, -, hat, -⟩ := h.lookup_int keyedA Try.underlying59 Try.underlying3 (zero3 _) (ka_eq hd th hv)
  refine ⟨c, hat, fun z => ?_⟩
  obtain ⟨c', hr, hat', -⟩ := (mapOut (X := fun _ => False) h (Out.of_below z.b) id).lookup_int keyedA Try.underlying59 Try.underlying3 (zero3 _) (ka_eq hd th hv)
  rw [hat] at hat'
  have hcc : c = c' := by simpa using hat'
  rw [hcc]
  exact hr
end Go.Proofs.Ytbcnpdpdflkanaa
