/-
  LogMatching: the walk.
-/
import Derived.Test.YteekpfgjpdopmaaMh
import Derived.Test.YteekpfgjpdopmaaFv
import Derived.Test.YteekpfgjpdopmaaRid
import Derived.BigQuiet
namespace Go.Proofs.Yteekpfgjpdopmaa
open Go.RowKit
set_option linter.unusedVariables false

/-- What holds between two deeds. -/
def MX (N : Nat) (w0 : World) (v : Value) (bs : List Nat) (term : Nat) (lead : Nat) (g : Bool) (wr : World) : Prop :=
  ∃ Ss L, Fv N wr v bs Ss L ∧ Mi L (term : Int) lead g ∧ Below w0.heap.size w0 wr ∧ N ≤ wr.heap.size

/-- Within a leader's appends: the deed's block stays. -/
def MY (N : Nat) (w0 : World) (v : Value) (bs : List Nat) (term : Nat) (lead : Nat) (g : Bool) (db : Nat) (o : Obj) (wr : World) : Prop :=
  ∃ Ss L, Fv N wr v bs Ss L ∧ Mi L (term : Int) lead g ∧ Below w0.heap.size w0 wr ∧ N ≤ wr.heap.size ∧ wr.heap[db]? = some o ∧ ∀ j, j < bs.length → ¬ Ss j db

theorem MX.y {N : Nat} {w0 : World} {v : Value} {bs : List Nat} {term lead : Nat} {g : Bool} {wr W : World} {o : Obj} (h : MX N w0 v bs term lead g wr) (hB : Below wr.heap.size wr W) (ho : W.heap[wr.heap.size]? = some o) : MY N w0 v bs term lead g wr.heap.size o W := by
  obtain ⟨Ss, L, h1, h2, h3, h4⟩ := h
  exact ⟨Ss, L, h1.below hB, h2, h3.trans (hB.mono h3.size), Nat.le_trans h4 hB.size, ho, fun j hj hs => by have := (h1.lg j hj).inn _ hs; omega⟩
theorem MY.x {N : Nat} {w0 : World} {v : Value} {bs : List Nat} {term lead db : Nat} {g : Bool} {wr : World} {o : Obj} (h : MY N w0 v bs term lead g db o wr) : MX N w0 v bs term lead g wr := by
  obtain ⟨Ss, L, h1, h2, h3, h4, -⟩ := h
  exact ⟨Ss, L, h1, h2, h3, h4⟩
theorem MX.below {N : Nat} {w0 : World} {v : Value} {bs : List Nat} {term lead : Nat} {g : Bool} {wr W : World} (h : MX N w0 v bs term lead g wr) (hB : Below wr.heap.size wr W) : MX N w0 v bs term lead g W := by
  obtain ⟨Ss, L, h1, h2, h3, h4⟩ := h
  exact ⟨Ss, L, h1.below hB, h2, h3.trans (hB.mono h3.size), Nat.le_trans h4 hB.size⟩
theorem MX.next {N : Nat} {w0 : World} {v : Value} {bs : List Nat} {term lead : Nat} {g : Bool} {wr : World} (h : MX N w0 v bs term lead g wr) (of : Nat) (hof : of < 5) (g' : Bool) : MX N w0 v bs (term + 1) of g' wr := by
  obtain ⟨Ss, L, h1, h2, h3, h4⟩ := h
  exact ⟨Ss, L, h1, by have := h2.next of hof g'; exact_mod_cast this, h3, h4⟩
/-- Last of one of them. -/
theorem MX.last {N : Nat} {w0 : World} {v : Value} {bs : List Nat} {term lead : Nat} {g : Bool} {wr : World} (h : MX N w0 v bs term lead g wr) {j : Nat} (hj : j < bs.length) :
    Calls Try.prog 24 #[.pointer (some ⟨bs.getD j 0, 0, none⟩)] wr fun e w' => ∃ x y : Int, e = .returned (.tuple #[.int .i64 x, .int .i64 y]) ∧ MX N w0 v bs term lead g w' := by
  have h' := h
  obtain ⟨Ss, L, h1, h2, h3, h4⟩ := h
  refine (Last_any (h1.lg j hj)).mono ?_
  rintro e w' ⟨rfl, hB⟩
  exact ⟨_, _, rfl, h'.below hB⟩
theorem MY.below {N : Nat} {w0 : World} {v : Value} {bs : List Nat} {term lead db : Nat} {g : Bool} {o : Obj} {wr W : World} (h : MY N w0 v bs term lead g db o wr) (hB : Below wr.heap.size wr W) : MY N w0 v bs term lead g db o W := by
  obtain ⟨Ss, L, h1, h2, h3, h4, h5, h6⟩ := h
  exact ⟨Ss, L, h1.below hB, h2, h3.trans (hB.mono h3.size), Nat.le_trans h4 hB.size, (hB.block db (Array.getElem?_eq_some_iff.1 h5).1).trans h5, h6⟩
/-- gives, from one to another. -/
theorem MY.gives {N : Nat} {w0 : World} {v : Value} {bs : List Nat} {term lead db : Nat} {g : Bool} {ob : Obj} {wr : World} (h : MY N w0 v bs term lead g db ob wr) (hb : bs.length = 5) (hw0 : w0.heap.size ≤ N) {i j : Nat} (hi : i < 5) (hj : j < 5) (n m : Int) :
    Calls Try.prog 38 #[.pointer (some ⟨bs.getD i 0, 0, none⟩), .pointer (some ⟨bs.getD j 0, 0, none⟩), .int .i64 n, .int .i64 m] wr fun e w' => e = .returned (.tuple #[]) ∧ MY N w0 v bs term lead (g || decide (j = lead)) db ob w' := by
  obtain ⟨Ss, L, h1, h2, h3, h4, h5, h6⟩ := h
  have hdb : db < wr.heap.size := (Array.getElem?_eq_some_iff.1 h5).1
  refine (gives_any (h1.lg i (by omega)) (h1.lg j (by omega)) h4 (h2.zr i hi) (h2.zr j hj) (h2.mt j i hj hi) n m).mono ?_
  rintro e w' ⟨rfl, P', hT, hz, hE⟩
  refine ⟨rfl, _, _, h1.th (by omega) hT, h2.give i j hi hj P' hz hE, h3.trans ((hT.bel h4).mono hw0), Nat.le_trans h4 hT.out.size, (hT.out.block db hdb (h6 j (by omega))).trans h5, ?_⟩
  intro k hk hs'
  by_cases e : k = j
  · subst e
    rw [updS_same] at hs'
    rcases hs' with hs' | hs'
    · exact h6 k hk hs'
    · omega
  · rw [updS_ne Ss _ e] at hs'
    exact h6 k hk hs'
/-- matching of two of them. -/
theorem MX.matching {N : Nat} {w0 : World} {v : Value} {bs : List Nat} {term lead : Nat} {g : Bool} {wr : World} (h : MX N w0 v bs term lead g wr) (hb : bs.length = 5) {i j : Nat} (hi : i < 5) (hj : j < 5) :
    Calls Try.prog 39 #[.pointer (some ⟨bs.getD i 0, 0, none⟩), .pointer (some ⟨bs.getD j 0, 0, none⟩)] wr fun e w' => e = .returned (.bool true) ∧ Below wr.heap.size wr w' := by
  obtain ⟨Ss, L, h1, h2, h3, h4⟩ := h
  exact matching_any (h1.lg i (by omega)) (h1.lg j (by omega)) (h2.zr i hi) (h2.zr j hj) (h2.mt i j hi hj)
/-- An Append of the leader. -/
theorem MY.app {N : Nat} {w0 : World} {v : Value} {bs : List Nat} {term lead db : Nat} {o : Obj} {wr W : World} (h : MY N w0 v bs term lead false db o wr) (hb : bs.length = 5) (hw0 : w0.heap.size ≤ N) (hB : Below wr.heap.size wr W) (a : Option Addr) (d : List UInt8) (cap M : Nat) (hs : Sl M W (.slice a d.length cap) d) (hM : M ≤ W.heap.size) :
    Calls Try.prog 19 #[.pointer (some ⟨bs.getD lead 0, 0, none⟩), .int .i64 (term : Int), .int .i64 1, .slice a d.length cap] W fun e w' => ∃ r, e = .returned r ∧ MY N w0 v bs term lead false db o w' := by
  obtain ⟨Ss, L, h1, h2, h3, h4, h5, h6⟩ := h
  have h1' := h1.below hB
  have hdb : db < wr.heap.size := (Array.getElem?_eq_some_iff.1 h5).1
  have hll : lead < bs.length := by have := h2.ll; omega
  refine (Append_any (h1'.lg lead hll) (Nat.le_trans h4 hB.size) (term : Int) 1 a d cap M hs hM).mono ?_
  rintro e w' ⟨rfl, hT⟩
  obtain ⟨z1, z2⟩ := (h2.zr lead h2.ll).app hT.q.ok
  refine ⟨_, rfl, _, _, h1'.th hll hT, h2.app _ z1 ((term : Int), (L lead).li + 1, 1, d) rfl z2, ?_, ?_, ?_, ?_⟩
  · exact (h3.trans (hB.mono h3.size)).trans ((hT.bel (Nat.le_trans h4 hB.size)).mono hw0)
  · exact Nat.le_trans h4 (Nat.le_trans hB.size hT.out.size)
  · exact (hT.out.block db (Nat.lt_of_lt_of_le hdb hB.size) (h6 lead hll)).trans ((hB.block db hdb).trans h5)
  · intro j hj hs'
    by_cases e : j = lead
    · subst e
      rw [updS_same] at hs'
      rcases hs' with hs' | hs'
      · exact h6 j hj hs'
      · have := hB.size; omega
    · rw [updS_ne Ss _ e] at hs'
      exact h6 j hj hs'
theorem MX.cell {N : Nat} {w0 : World} {bs : List Nat} {term lead : Nat} {g : Bool} {wr : World} {rb n c : Nat} (h : MX N w0 (.slice (some ⟨rb, 0, none⟩) n c) bs term lead g wr) {j : Nat} (hj : j < bs.length) : wr.cell? ⟨rb, j, none⟩ = some (.pointer (some ⟨bs.getD j 0, 0, none⟩)) := by
  obtain ⟨Ss, L, h1, -⟩ := h
  exact h1.cell hj
theorem cells5d {w : World} {b : Nat} {t : TypeId} {v0 v1 v2 v3 v4 : Value} (h : w.heap[b]? = some (.cells #[v0, v1, v2, v3, v4] t (0, 0))) :
    w.cell? ⟨b, 0, none⟩ = some v0 ∧ w.cell? ⟨b, 1, none⟩ = some v1 ∧ w.cell? ⟨b, 2, none⟩ = some v2 ∧ w.cell? ⟨b, 3, none⟩ = some v3 ∧ w.cell? ⟨b, 4, none⟩ = some v4 := by
  refine ⟨?_, ?_, ?_, ?_, ?_⟩
  all_goals (simp only [World.cell?, h]; rfl)

set_option maxRecDepth 100000 in
set_option maxHeartbeats 16000000 in
theorem matching_walk (N : Nat) (oa : Option Addr) (oc : Nat) (l : List Deed) (w : World) (hO : DeeAts N w oa l) (hN : N ≤ w.heap.size) (hl : l.length ≤ 9223372036854775807) :
    Calls Try.prog 7 #[.slice oa l.length oc] w fun e w' => e = .returned (.bool true) ∧ Below w.heap.size w w' := by
  have hf := first_any w
  have HO : Hid (DeeAts N w oa l) := hO
  clear hO
  go_enter Try.func7, Try.ntmps7
  go_wp2_with fail
  refine hf.mono ?_
  rintro e w1 ⟨rfl, hB1⟩
  have HB1 : Hid (Below w.heap.size w w1) := hB1
  clear hB1 hf
  by_cases hgt : (300 : Int) < (l.length : Int)
  · go_wp2
    go_ret
    exact ⟨rfl, HB1.out⟩
  have hlen : l.length ≤ 300 := by omega
  have HW1 : Hid (w.heap.size ≤ w1.heap.size) := HB1.out.size
  go_wp2_with fail
  go_loopw [4, 5] (fun lv iv wr => ∃ (bs : List Nat) (Ss : Nat → Nat → Prop) (va : Option Addr) (vc : Nat), lv = .slice va bs.length vc ∧ iv = .int .i64 (bs.length : Int) ∧ bs.length ≤ 5 ∧ Fv w1.heap.size wr (.slice va bs.length vc) bs Ss (fun _ => P0) ∧ Below w.heap.size w wr ∧ w1.heap.size ≤ wr.heap.size) (fun _ iv _ => 5 - (intOf iv).toNat)
  case atStart => exact ⟨[], fun _ _ => False, none, 0, rfl, rfl, by simp, Fv.start _ _ _ _, HB1.out, Nat.le_refl _⟩
  case round =>
    obtain ⟨bs, Ss, va, vc, rfl, rfl, hk, hF, hB, hZ⟩ := hrel
    have HF : Hid (Fv w1.heap.size wr (.slice va bs.length vc) bs Ss (fun _ => P0)) := hF
    have HB : Hid (Below w.heap.size w wr) := hB
    have HZ : Hid (w1.heap.size ≤ wr.heap.size) := hZ
    clear hF hB hZ HB1
    by_cases hlt : bs.length < 5
    · as_aux_lemma =>
        go_wp2_with fail
        refine (new_any wr).mono ?_
        rintro r w2 ⟨b, S, rfl, hL, hB2⟩
        have HL : Hid (Lg wr.heap.size S w2 b P0) := hL
        have HB2 : Hid (Below wr.heap.size wr w2) := hB2
        clear hL hB2
        have HROW : Hid (∀ o, (w2.alloc o).ownsRow w1.heap.size 25 1 (.slice va bs.length vc) bs.length (bs.map encP)) := fun o => (HF.out.below (HB2.out.alloc HB2.out.size o)).row
        go_wp2_with (at_builtin; refine step_append_p rfl _ _ rfl w1.heap.size _ bs b rfl (HROW.out _) rfl (by omega) (Nat.le_trans HZ.out HB2.out.size) ?_; intro v' w3 q1 q2 q3; obtain ⟨va', vc', rfl⟩ := ownsRow_shape q1)
        go_roundw
        case rel => exact ⟨bs ++ [b], _, va', vc', by simp, by simp, by simp; omega, by simpa using HF.out.snoc HZ.out HB2.out HL.out q1 q2 q3, ((HB.out.trans (HB2.out.mono HB.out.size)).alloc (Nat.le_trans HB.out.size HB2.out.size) _).grown q2 (by have := HB.out.size; have := HB2.out.size; simp; omega) (fun g hg => by have := (HF.out.row.lt g hg).1; have := HW1.out; omega), Nat.le_trans HZ.out (Nat.le_trans HB2.out.size (Nat.le_trans (by simp) q2.size))⟩
        case measure => simp [intOf]; omega
    · have hb5 : bs.length = 5 := by omega
      obtain ⟨rb, rc, hv, hrb, hrc, hrm⟩ := HF.out.cells (by omega)
      cases hv
      rw [hb5] at HF ⊢
      rw [show ((5 : Nat) : Int) = 5 from rfl]
      have HB5 : Hid (bs.length = 5) := hb5
      have HMX : Hid (MX w1.heap.size w (.slice (some ⟨rb, 0, none⟩) 5 vc) bs 0 0 true wr) := ⟨Ss, _, HF.out, Mi.start, HB.out, HZ.out⟩
      clear HF HB HZ hrb hrm hlt hk hb5
      as_aux_lemma =>
        go_wp2_with fail
        go_loopw [8, 9, 10, 11] (fun tv lv gv iv wr => ∃ (k term lead : Nat) (g : Bool), tv = .int .i64 (term : Int) ∧ lv = .int .i64 (lead : Int) ∧ gv = .bool g ∧ iv = .int .i64 (k : Int) ∧ k ≤ l.length ∧ term ≤ k ∧ lead < 5 ∧ MX w1.heap.size w (.slice (some ⟨rb, 0, none⟩) 5 vc) bs term lead g wr) (fun _ _ _ iv _ => l.length - (intOf iv).toNat)
        case atStart => exact ⟨0, 0, 0, true, rfl, rfl, rfl, rfl, Nat.zero_le _, Nat.le_refl _, by omega, HMX.out⟩
        case round =>
          clear HMX
          obtain ⟨k, term, lead, g, rfl, rfl, rfl, rfl, hk, htk, hld, hM⟩ := hrel
          have HM : Hid (MX w1.heap.size w (.slice (some ⟨rb, 0, none⟩) 5 vc) bs term lead g wr) := hM
          have HB : Hid (Below w.heap.size w wr) := by obtain ⟨Ss, L, -, -, h3, -⟩ := hM; exact h3
          clear hM
          by_cases hlt : k < l.length
          · obtain ⟨gb, off, hoa, hgN, hop⟩ := HO.out.at hlt
            subst hoa
            obtain ⟨⟨c0, c1, c2, c3, c4⟩, -⟩ := hop.below hgN (HB.out.mono hN)
            have HNX : Hid (∀ (term' lead' : Nat) (g' : Bool) (wn : World), term' ≤ k + 1 → lead' < 5 → MX w1.heap.size w (.slice (some ⟨rb, 0, none⟩) 5 vc) bs term' lead' g' wn → (∃ (k' t' l' : Nat) (g'' : Bool), Value.int .i64 (term' : Int) = .int .i64 (t' : Int) ∧ Value.int .i64 (lead' : Int) = .int .i64 (l' : Int) ∧ Value.bool g' = .bool g'' ∧ Value.int .i64 ((k : Int) + 1) = .int .i64 (k' : Int) ∧ k' ≤ l.length ∧ t' ≤ k' ∧ l' < 5 ∧ MX w1.heap.size w (.slice (some ⟨rb, 0, none⟩) 5 vc) bs t' l' g'' wn) ∧ l.length - (intOf (Value.int .i64 ((k : Int) + 1))).toNat < l.length - (intOf (Value.int .i64 (k : Int))).toNat) := fun t' l' g' wn h1 h2 h3 =>
              ⟨⟨k + 1, t', l', g', rfl, rfl, rfl, by simp, hlt, h1, h2, h3⟩, by simp [intOf]; omega⟩
            generalize l.getD k nilDeed = o at *
            obtain ⟨okd, oof, oto, on, om⟩ := o
            simp only at c0 c1 c2 c3 c4
            have hgw : gb < wr.heap.size := by have := HB.out.size; omega
            have i0 : (0 : Int) ≤ (k : Int) := by omega
            have i1 : (k : Int) < (l.length : Int) := by omega
            obtain ⟨xo, A, oa1, oa2, oa3, hA, -, -⟩ := redM 5 (by omega) (by omega) oof
            obtain ⟨xt, B, ta1, ta2, ta3, hBt, -, -⟩ := redM 5 (by omega) (by omega) oto
            have oa1' : oof.tmod 5 = xo := oa1
            have oa2' : IntKind.i64.wrap (xo + 5) = xo + 5 := oa2
            have oa3' : (xo + 5).tmod 5 = (A : Int) := oa3
            have ta1' : oto.tmod 5 = xt := ta1
            have ta2' : IntKind.i64.wrap (xt + 5) = xt + 5 := ta2
            have ta3' : (xt + 5).tmod 5 = (B : Int) := ta3
            clear oa1 oa2 oa3 ta1 ta2 ta3
            obtain ⟨W3, hW3⟩ : ∃ W3, wr.alloc (.cells #[.int .i64 okd, .int .i64 oof, .int .i64 oto, .int .i64 on, .int .i64 om] 70) = W3 := ⟨_, rfl⟩
            have HW3 : Hid (wr.alloc (.cells #[.int .i64 okd, .int .i64 oof, .int .i64 oto, .int .i64 on, .int .i64 om] 70) = W3) := hW3
            have HB3 : Hid (Below wr.heap.size wr W3) := by show Below _ _ _; rw [← hW3]; exact (Below.refl _ wr).alloc (Nat.le_refl _) _
            have HX3 : Hid (W3.heap[wr.heap.size]? = some (.cells #[.int .i64 okd, .int .i64 oof, .int .i64 oto, .int .i64 on, .int .i64 om] 70 (0, 0))) := by show _ = _; rw [← hW3]; exact heap_alloc_new wr _
            have HM3 : Hid (MX w1.heap.size w (.slice (some ⟨rb, 0, none⟩) 5 vc) bs term lead g W3) := HM.out.below HB3.out
            have HCP : Hid (∀ j, j < 5 → W3.cell? ⟨rb, j, none⟩ = some (.pointer (some ⟨bs.getD j 0, 0, none⟩))) := fun j hj => HM3.out.cell (by rw [HB5.out]; exact hj)
            obtain ⟨x0, x1, x2, x3, x4⟩ := cells5d HX3.out
            have hdw : wr.heap.size < W3.heap.size := (Array.getElem?_eq_some_iff.1 HX3.out).1
            clear hop hW3 HO
            by_cases hk0 : okd = 0
            · subst hk0
              as_aux_lemma =>
                have hl0 : (0 : Int) ≤ (lead : Int) := by omega
                have hl1 : (lead : Int) < 5 := by omega
                by_cases ht0 : term = 0
                · have ht : ((term : Int) == 0) = true := by simp [ht0]
                  go_wp2_with fail
                  rw [HW3.out]
                  go_wp2_with fail
                  exact HNX.out term lead g W3 (by omega) hld HM3.out
                have ht : ((term : Int) == 0) = false := by simp; omega
                cases g with
                | true =>
                  go_wp2_with fail
                  rw [HW3.out]
                  go_wp2_with fail
                  exact HNX.out term lead true W3 (by omega) hld HM3.out
                | false =>
                  obtain ⟨xn, C, na1, na2, na3, hC, -, -⟩ := redM 3 (by omega) (by omega) on
                  have na1' : on.tmod 3 = xn := na1
                  have na2' : IntKind.i64.wrap (xn + 3) = xn + 3 := na2
                  have na3' : (xn + 3).tmod 3 = (C : Int) := na3
                  have na4 : IntKind.i64.wrap ((C : Int) + 1) = (C : Int) + 1 := by rw [IntKind.wrap_i64]; omega
                  clear na1 na2 na3
                  have HY : Hid (MY w1.heap.size w (.slice (some ⟨rb, 0, none⟩) 5 vc) bs term lead false wr.heap.size (.cells #[.int .i64 0, .int .i64 oof, .int .i64 oto, .int .i64 on, .int .i64 om] 70 (0, 0)) W3) := HM.out.y HB3.out HX3.out
                  obtain ⟨u1, hu1⟩ := wrap_u8 (term : Int)
                  obtain ⟨u2, hu2⟩ := wrap_u8 (k : Int)
                  go_wp2_with fail
                  rw [HW3.out]
                  go_wp2_with fail
                  clear x0 x1 x2 x3 x4 HM3 HX3 HCP HM HB3 HW3 c0 c1 c2 c3 c4 HB hgw hdw
                  generalize wr.heap.size = db at *
                  go_loopw [15] (fun kv wq => ∃ j : Nat, kv = .int .i64 (j : Int) ∧ j ≤ C + 1 ∧ MY w1.heap.size w (.slice (some ⟨rb, 0, none⟩) 5 vc) bs term lead false db (.cells #[.int .i64 0, .int .i64 oof, .int .i64 oto, .int .i64 on, .int .i64 om] 70 (0, 0)) wq) (fun kv _ => C + 1 - (intOf kv).toNat)
                  case atStart => exact ⟨0, rfl, Nat.zero_le _, HY.out⟩
                  case round =>
                    obtain ⟨j, rfl, hj, hY⟩ := hrel
                    have HYJ : Hid (MY w1.heap.size w (.slice (some ⟨rb, 0, none⟩) 5 vc) bs term lead false db (.cells #[.int .i64 0, .int .i64 oof, .int .i64 oto, .int .i64 on, .int .i64 om] 70 (0, 0)) wr) := hY
                    have pl := hY.x.cell (j := lead) (by rw [HB5.out]; exact hld)
                    obtain ⟨-, -, -, x3, -⟩ := cells5d (by obtain ⟨Ss, L, -, -, -, -, h5, -⟩ := hY; exact h5)
                    have hdw : db < wr.heap.size := by obtain ⟨Ss, L, -, -, -, -, h5, -⟩ := hY; exact (Array.getElem?_eq_some_iff.1 h5).1
                    clear hY HY
                    by_cases hlt2 : j < C + 1
                    · have hj2 : (j : Int) < (C : Int) + 1 := by omega
                      obtain ⟨u3, hu3⟩ := wrap_u8 (j : Int)
                      have HAP : Hid (Calls _ _ _ _ _) := HYJ.out.app HB5.out HW1.out ((Below.refl _ wr).alloc (Nat.le_refl _) (.cells #[.int .u8 (u1.toNat : Int), .int .u8 (u2.toNat : Int), .int .u8 (u3.toNat : Int)] 5)) (some ⟨wr.heap.size, 0, none⟩) [u1, u2, u3] 3 (wr.heap.size + 1) (sl_new wr [u1, u2, u3] _ (by simp) (by simp) rfl) (by simp)
                      clear HYJ hlt2
                      go_wp2_with fail
                      refine HAP.out.mono ?_
                      rintro r w4 ⟨r4, rfl, hY4⟩
                      have HY4 : Hid (MY _ _ _ _ _ _ _ _ _ w4) := hY4
                      clear hY4 HAP
                      go_wp2
                      go_roundw
                      case rel => exact ⟨j + 1, by simp, by omega, HY4.out⟩
                      case measure => simp [intOf]; omega
                    · have hj2 : ¬ (j : Int) < (C : Int) + 1 := by omega
                      go_wp2_with fail
                      exact HNX.out term lead false wr (by omega) hld HYJ.out.x
            · have b0 : (okd == 0) = false := by simpa using hk0
              by_cases hk1 : okd = 1
              · subst hk1
                as_aux_lemma =>
                  have hA0 : (0 : Int) ≤ (A : Int) := by omega
                  have hA1 : (A : Int) < 5 := by omega
                  have hB0 : (0 : Int) ≤ (B : Int) := by omega
                  have hB1' : (B : Int) < 5 := by omega
                  by_cases hBA : B = A
                  · subst hBA
                    go_wp2_with fail
                    rw [HW3.out]
                    go_wp2_with fail
                    exact HNX.out term lead g W3 (by omega) hld HM3.out
                  have hBA' : ((B : Int) == (A : Int)) = false := by simp; omega
                  have pA := HCP.out A hA
                  have pB := HCP.out B hBt
                  have HG : Hid (∀ X, Below W3.heap.size W3 X → Calls _ _ _ X _) := fun X hX => ((HM.out.y HB3.out HX3.out).below hX).gives HB5.out HW1.out hA hBt on om
                  have hwd : Below W3.heap.size W3 W3.drew := (Below.refl _ _).drew
                  have hrbw : rb < W3.heap.size := (World.block_lt_of_cell? W3 ⟨rb, A, none⟩ pA)
                  have HE : Hid ((false || decide (B = lead)) = ((B : Int) == (lead : Int))) := by show _ = _; rw [Bool.false_or, Bool.eq_iff_iff]; simp only [decide_eq_true_eq, beq_iff_eq]; omega
                  clear HM HB HX3 hBA
                  cases g with
                  | true =>
                    go_wp2_with fail
                    rw [HW3.out]
                    go_wp2_with fail
                    go_region_held3 (fun w' => w'.cell? ⟨rb, A, none⟩ = some (.pointer (some ⟨bs.getD A 0, 0, none⟩)) ∧ w'.cell? ⟨rb, B, none⟩ = some (.pointer (some ⟨bs.getD B 0, 0, none⟩)) ∧ w'.cell? ⟨wr.heap.size, 3, none⟩ = some (.int .i64 on) ∧ w'.cell? ⟨wr.heap.size, 4, none⟩ = some (.int .i64 om)) (go_keep)
                      (first
                        | (go_at_call 38; refine (HG.out _ hwd).mono ?_; rintro r w6 ⟨rfl, hM6⟩; have HM6 : Hid (MY _ _ _ _ _ _ _ _ _ w6) := hM6; have q1 := hM6.x.cell (j := A) (by rw [HB5.out]; exact hA); have q2 := hM6.x.cell (j := B) (by rw [HB5.out]; exact hBt); obtain ⟨-, -, -, q3, q4⟩ := cells5d (by obtain ⟨Ss, L, -, -, -, -, h5, -⟩ := hM6; exact h5); clear hM6)
                        | fail)
                    go_wp2
                    exact HNX.out term lead true w6 (by omega) hld HM6.out.x
                  | false =>
                    go_wp2_with fail
                    rw [HW3.out]
                    go_wp2_with fail
                    go_region_held3 (fun w' => w'.cell? ⟨rb, A, none⟩ = some (.pointer (some ⟨bs.getD A 0, 0, none⟩)) ∧ w'.cell? ⟨rb, B, none⟩ = some (.pointer (some ⟨bs.getD B 0, 0, none⟩)) ∧ w'.cell? ⟨wr.heap.size, 3, none⟩ = some (.int .i64 on) ∧ w'.cell? ⟨wr.heap.size, 4, none⟩ = some (.int .i64 om)) (go_keep)
                      (first
                        | (go_at_call 38; refine (HG.out _ hwd).mono ?_; rintro r w6 ⟨rfl, hM6⟩; have HM6 : Hid (MY _ _ _ _ _ _ _ _ _ w6) := hM6; have q1 := hM6.x.cell (j := A) (by rw [HB5.out]; exact hA); have q2 := hM6.x.cell (j := B) (by rw [HB5.out]; exact hBt); obtain ⟨-, -, -, q3, q4⟩ := cells5d (by obtain ⟨Ss, L, -, -, -, -, h5, -⟩ := hM6; exact h5); clear hM6)
                        | fail)
                    go_wp2
                    exact HNX.out term lead ((B : Int) == (lead : Int)) w6 (by omega) hld (by rw [← HE.out]; exact HM6.out.x)
              · have b1 : (okd == 1) = false := by simpa using hk1
                clear hk0 hk1
                as_aux_lemma =>
                  have hA0 : (0 : Int) ≤ (A : Int) := by omega
                  have hA1 : (A : Int) < 5 := by omega
                  have hwt : IntKind.i64.wrap ((term : Int) + 1) = (term : Int) + 1 := by rw [IntKind.wrap_i64]; omega
                  have pA := HCP.out A hA
                  rw [← HW3.out] at pA
                  have HLA : Hid (Calls _ _ _ _ _) := HM3.out.last (j := A) (by rw [HB5.out]; exact hA)
                  go_wp2_with fail
                  rw [HW3.out]
                  refine HLA.out.mono ?_
                  rintro r w4 ⟨x, y, rfl, hM4⟩
                  have HM4 : Hid (MX _ _ _ _ _ _ _ w4) := hM4
                  clear hM4 HLA
                  go_wp2
                  exact HNX.out (term + 1) A _ w4 (by omega) hA (HM4.out.next A hA _)
          · as_aux_lemma =>
              have hnk : ¬ (k : Int) < (l.length : Int) := by omega
              clear hlt
              go_wp2_with fail
              go_loopw [18] (fun iv wq => ∃ i : Nat, iv = .int .i64 (i : Int) ∧ i ≤ 5 ∧ MX w1.heap.size w (.slice (some ⟨rb, 0, none⟩) 5 vc) bs term lead g wq) (fun iv _ => 5 - (intOf iv).toNat)
              case atStart => exact ⟨0, rfl, Nat.zero_le _, HM.out⟩
              case round =>
                obtain ⟨i, rfl, hi, hM1⟩ := hrel
                have HM1 : Hid (MX w1.heap.size w (.slice (some ⟨rb, 0, none⟩) 5 vc) bs term lead g wr) := hM1
                clear hM1 HM HB
                by_cases hlt : i < 5
                · have hi5 : (i : Int) < 5 := by omega
                  have hi0 : (0 : Int) ≤ (i : Int) := by omega
                  go_wp2_with fail
                  go_loopw [19] (fun jv wq => ∃ j : Nat, jv = .int .i64 (j : Int) ∧ j ≤ i ∧ MX w1.heap.size w (.slice (some ⟨rb, 0, none⟩) 5 vc) bs term lead g wq) (fun jv _ => i - (intOf jv).toNat)
                  case atStart => exact ⟨0, rfl, Nat.zero_le _, HM1.out⟩
                  case round =>
                    obtain ⟨j, rfl, hj, hM2⟩ := hrel
                    have HM2 : Hid (MX w1.heap.size w (.slice (some ⟨rb, 0, none⟩) 5 vc) bs term lead g wr) := hM2
                    have pi := hM2.cell (j := i) (by rw [HB5.out]; exact hlt)
                    by_cases hlt2 : j < i
                    · have pj := hM2.cell (j := j) (by rw [HB5.out]; omega)
                      have hj5 : (j : Int) < 5 := by omega
                      have hj0 : (0 : Int) ≤ (j : Int) := by omega
                      have hji : (j : Int) < (i : Int) := by omega
                      have hrbw : rb < wr.heap.size := (World.block_lt_of_cell? wr ⟨rb, i, none⟩ pi)
                      have hwd : Below wr.heap.size wr wr.drew := (Below.refl _ _).drew
                      have HG : Hid (∀ X, Below wr.heap.size wr X → Calls Try.prog 39 #[.pointer (some ⟨bs.getD i 0, 0, none⟩), .pointer (some ⟨bs.getD j 0, 0, none⟩)] X fun e w' => e = .returned (.bool true) ∧ MX w1.heap.size w (.slice (some ⟨rb, 0, none⟩) 5 vc) bs term lead g w') := fun X hX => ((HM2.out.below hX).matching HB5.out hlt (by omega)).mono (fun e w' h => ⟨h.1, (HM2.out.below hX).below h.2⟩)
                      clear hM2 HM1
                      go_wp2_with fail
                      go_region_held3 (fun w' => w'.cell? ⟨rb, i, none⟩ = some (.pointer (some ⟨bs.getD i 0, 0, none⟩)) ∧ w'.cell? ⟨rb, j, none⟩ = some (.pointer (some ⟨bs.getD j 0, 0, none⟩))) (go_keep)
                        (first
                          | (go_at_call 39; refine (HG.out _ hwd).mono ?_; rintro r w6 ⟨rfl, hM6⟩; have HM6 : Hid (MX _ _ _ _ _ _ _ w6) := hM6; have q1 := hM6.cell (j := i) (by rw [HB5.out]; exact hlt); have q2 := hM6.cell (j := j) (by rw [HB5.out]; omega); clear hM6)
                          | fail)
                      go_wp2
                      exact ⟨⟨j + 1, by simp, by omega, HM6.out⟩, by simp [intOf]; omega⟩
                    · have hji : ¬ (j : Int) < (i : Int) := by omega
                      clear hM2
                      go_wp2_with fail
                      exact ⟨⟨i + 1, by simp, by omega, HM2.out⟩, by simp [intOf]; omega⟩
                · have hi5 : ¬ (i : Int) < 5 := by omega
                  go_wp2
                  go_ret
                  exact ⟨rfl, by obtain ⟨Ss, L, -, -, h3, -⟩ := HM1.out; exact h3⟩
theorem logMatching_in (w : World) {ea : Option Addr} {ec : Nat} (es : List Deed) (s : DeeAts w.heap.size w ea es ∧ es.length ≤ 9223372036854775807) :
    Calls Try.prog 7 #[.slice ea es.length ec] w fun e w' => e = .returned (.bool true) ∧ Below w.heap.size w w' :=
  matching_walk w.heap.size ea ec es w s.1 (Nat.le_refl _) s.2
end Go.Proofs.Yteekpfgjpdopmaa
