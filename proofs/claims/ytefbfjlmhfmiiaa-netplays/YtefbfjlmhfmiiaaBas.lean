/-
  Bytes in memory: slices that read a list of bytes; slices of the call's own; copies; whether two are the same.
-/
import Derived.Test.YtefbfjlmhfmiiaaProg
import Derived.Below
import Derived.WalkKit
import Derived.WalkSpells
import Derived.WalkLawsBesides
import Derived.BigQuiet
import Derived.Deep.QuietTactic
import Derived.Deep.RegionWith
import Derived.Laws.AppendOwnNone
import Derived.Maps.AppendAt
import Derived.Maps.RangeWalk
import Derived.Maps.OwnSet
import Derived.Deep.RegionHeld3
import Derived.Deep.RegionLaw
import Derived.Handy
import Derived.Outline
namespace Go.Proofs.Ytefbfjlmhfmiiaa
open Go.RowKit

def encB (x : UInt8) : Value := .int .u8 (x.toNat : Int)

/-- v is a slice of bytes that reads l, in a block below N. -/
def Sl (N : Nat) (W : World) (v : Value) (l : List UInt8) : Prop :=
  ∃ (a : Option Addr) (cap : Nat), v = .slice a l.length cap ∧ l.length ≤ cap ∧ cap ≤ maxLen ∧
    (l = [] ∨ ∃ b off, a = some ⟨b, off, none⟩ ∧ b < N ∧ ∀ i, i < l.length → W.cell? ⟨b, off + i, none⟩ = some (encB (l[i]?.getD 0)))

theorem encB_inj {x y : UInt8} (h : (x.toNat : Int) = (y.toNat : Int)) : x = y := UInt8.toNat_inj.1 (by omega)

theorem same_yes {l1 l2 : List UInt8} (hl : l1.length = l2.length) (h : ∀ j, j < l1.length → l1[j]?.getD 0 = l2[j]?.getD 0) : l1 = l2 := by
  apply List.ext_getElem hl
  intro i h1 h2
  have := h i h1
  simpa [List.getElem?_eq_getElem h1, List.getElem?_eq_getElem h2] using this

set_option maxRecDepth 100000 in
set_option maxHeartbeats 1000000 in
theorem same_any (N : Nat) (v1 v2 : Value) (l1 l2 : List UInt8) (w : World) (h1 : Sl N w v1 l1) (h2 : Sl N w v2 l2) :
    Calls Try.prog 27 #[v1, v2] w fun e w' => e = .returned (.bool (decide (l1 = l2))) ∧ ∃ n, w' = w.drewN n := by
  obtain ⟨a1, cap1, rfl, hc1, hm1, g1⟩ := h1
  obtain ⟨a2, cap2, rfl, hc2, hm2, g2⟩ := h2
  unfold maxLen at hm1 hm2
  by_cases hlen : l1.length = l2.length
  · have e1 : ((l1.length : Int) != (l2.length : Int)) = false := by simp [hlen]
    by_cases hz : l1 = []
    · subst hz
      obtain rfl : l2 = [] := List.length_eq_zero_iff.1 (by simpa using hlen.symm)
      clear hlen
      go_enter Try.func27, Try.ntmps27
      go_wp2
      go_loop [5] (fun i => i = .int .i64 0) (fun _ => 0)
      case atStart => rfl
      case round =>
        subst hrel
        go_wp2
        go_ret
        exact ⟨rfl, 0, rfl⟩
    · have hp : 0 < l1.length := List.length_pos_iff.2 hz
      obtain ⟨b1, o1, rfl, -, f1⟩ := g1.resolve_left hz
      obtain ⟨b2, o2, rfl, -, f2⟩ := g2.resolve_left (by intro h; rw [h] at hlen; simp at hlen; exact hz hlen)
      have HL : Hid (l1.length = l2.length) := hlen
      have hle : l1.length ≤ l2.length := by omega
      clear hlen
      go_enter Try.func27, Try.ntmps27
      go_wp2
      go_loopw [5] (fun i wr => ∃ k n : Nat, i = .int .i64 k ∧ k ≤ l1.length ∧ wr = w.drewN n ∧ ∀ j, j < k → l1[j]?.getD 0 = l2[j]?.getD 0) (fun i _ => l1.length - (intOf i).toNat)
      case atStart => exact ⟨0, 0, rfl, by omega, rfl, fun j hj => by omega⟩
      case round =>
        obtain ⟨k, n, rfl, hk, rfl, hj⟩ := hrel
        by_cases hlt : k < l1.length
        · have c1 := f1 k hlt
          have c2 := f2 k (by omega)
          have HJ : Hid (∀ j, j < k → l1[j]?.getD 0 = l2[j]?.getD 0) := hj
          clear hj f1 f2
          unfold encB at c1 c2
          generalize hx1 : l1[k]?.getD 0 = x1 at c1
          generalize hx2 : l2[k]?.getD 0 = x2 at c2
          have H1 : Hid (l1[k]?.getD 0 = x1) := hx1
          have H2 : Hid (l2[k]?.getD 0 = x2) := hx2
          clear hx1 hx2
          by_cases he : x1 = x2
          · subst he
            go_wp2
            go_quiet (fail)
            go_wp2
            go_roundw
            case rel => 
              refine ⟨k + 1, _, by go_num, by omega, rfl, fun j hj => ?_⟩
              by_cases e : j = k
              · subst e; rw [H1.out, H2.out]
              · exact HJ.out j (by omega)
            case measure => simp [intOf]; omega
          · have hb : (((x1.toNat : Int)) != (x2.toNat : Int)) = true := by
              rw [bne_iff_ne]; intro h; exact he (encB_inj h)
            have HN : Hid (decide (l1 = l2) = false) := by
              show decide (l1 = l2) = false
              simp only [decide_eq_false_iff_not]; intro h; apply he; rw [← H1.out, ← H2.out, h]
            clear he
            go_wp2
            go_quiet (fail)
            go_wp2
            go_ret
            rw [HN.out]
            exact ⟨rfl, n + nq, by simp⟩
        · have HN : Hid (decide (l1 = l2) = true) := by
            show decide (l1 = l2) = true
            simp only [decide_eq_true_eq]
            exact same_yes HL.out (fun j hj' => hj j (by omega))
          clear hj
          go_wp2
          go_ret
          rw [HN.out]
          exact ⟨rfl, _, rfl⟩
  · have e1 : ((l1.length : Int) != (l2.length : Int)) = true := by simp; omega
    have e2 : decide (l1 = l2) = false := by simp; intro h; exact hlen (by rw [h])
    rw [e2]
    clear hlen e2
    go_enter Try.func27, Try.ntmps27
    go_wp2
    go_ret
    exact ⟨rfl, 0, rfl⟩
theorem info5 : (Try.prog.info? 5).map (fun i => (i.zero, i.size, i.bytes)) = some (some (.int .u8 0), 1, 1) := by kernel_rfl

/-- v is a slice of bytes of the call's own, from block N on, that reads l. -/
def Ow (N : Nat) (W : World) (v : Value) (l : List UInt8) : Prop := W.ownsRow N 5 1 v l.length (l.map encB)

theorem encB_one (x : UInt8) : (encB x).oneCell' = true := rfl

/-- One byte more, behind an append of the call's own. -/
theorem Ow.snoc {N : Nat} {w' : World} {v' : Value} {l : List UInt8} {x : UInt8} {u : Value} (hu : u = encB x) (h : w'.ownsRow N 5 1 v' (l.length + 1) (l.map encB ++ [u])) : Ow N w' v' (l ++ [x]) := by
  subst hu; unfold Ow; simpa using h

theorem Ow.shape {N : Nat} {w : World} {v : Value} {l : List UInt8} (h : Ow N w v l) : ∃ a cap, v = .slice a l.length cap ∧ l.length ≤ cap ∧ cap ≤ maxLen := by
  rcases h.2 with ⟨rfl, h2⟩ | ⟨g, cap, cur, rfl, _, _, h3, h4, _⟩
  · exact ⟨none, 0, by rw [h2], by omega, by unfold maxLen; omega⟩
  · exact ⟨_, _, rfl, h3, h4⟩

/-! ### what may turn -/
/-- Blocks outside X are as they were. -/
structure Out (X : Nat → Prop) (w w' : World) : Prop where
  os : w'.os = w.os
  tape : w'.tape = w.tape
  output : w'.output = w.output
  size : w.heap.size ≤ w'.heap.size
  block : ∀ i, i < w.heap.size → ¬ X i → w'.heap[i]? = w.heap[i]?

/-- The blocks of X, and those that are new. -/
def grew (X : Nat → Prop) (w w' : World) : Nat → Prop := fun i => X i ∨ (w.heap.size ≤ i ∧ i < w'.heap.size)

theorem Out.refl (X : Nat → Prop) (w : World) : Out X w w := ⟨rfl, rfl, rfl, Nat.le_refl _, fun _ _ _ => rfl⟩
theorem Out.trans {X Y : Nat → Prop} {a b c : World} (h : Out X a b) (k : Out Y b c) (hY : ∀ i, Y i → i < a.heap.size → X i) : Out X a c :=
  ⟨k.os.trans h.os, k.tape.trans h.tape, k.output.trans h.output, Nat.le_trans h.size k.size, fun i hi hx => (k.block i (Nat.lt_of_lt_of_le hi h.size) (fun hy => hx (hY i hy hi))).trans (h.block i hi hx)⟩
theorem Out.mono {X Y : Nat → Prop} {a b : World} (h : Out X a b) (hX : ∀ i, X i → Y i) : Out Y a b := ⟨h.os, h.tape, h.output, h.size, fun i hi hy => h.block i hi (fun hx => hy (hX i hx))⟩
theorem Out.grown {X : Nat → Prop} {a b : World} {row : Option Nat} (h : a.grownBy b row) (hr : ∀ j, row = some j → X j) : Out X a b :=
  ⟨h.os, h.tape, h.output, h.size, fun i hi hx => h.block i hi (fun e => hx (hr i e.symm))⟩
theorem Out.of_below {X : Nat → Prop} {a b : World} (h : Below a.heap.size a b) : Out X a b := ⟨h.os, h.tape, h.output, h.size, fun i hi _ => h.block i hi⟩
theorem Out.below {X : Nat → Prop} {a b : World} {N : Nat} (h : Out X a b) (hN : N ≤ a.heap.size) (hX : ∀ i, X i → N ≤ i) : Below N a b :=
  ⟨h.os, h.tape, h.output, h.size, fun i hi => h.block i (by omega) (fun hx => by have := hX i hx; omega)⟩
theorem Out.set {X : Nat → Prop} {w : World} {b o : Nat} {u : Value} (hb : X b) : Out X w (w.setCell ⟨b, o, none⟩ u) :=
  ⟨rfl, rfl, rfl, by simp [World.setCell], fun i _ hx => Below.heap_setCell _ _ _ _ (fun e => hx (by rw [e]; exact hb))⟩
theorem Out.step {X : Nat → Prop} {a b c : World} (h : Out X a b) (k : Out (grew X a b) b c) : Out X a c :=
  h.trans k (fun i hi hl => hi.elim id (fun h2 => absurd h2.1 (by omega)))
theorem grew_refl {X : Nat → Prop} {w : World} {i : Nat} (h : grew X w w i) : X i := h.elim id (fun h2 => absurd h2.2 (by omega))
theorem grew_mono {X : Nat → Prop} {w a b : World} (h : a.heap.size ≤ b.heap.size) {i : Nat} (hi : grew X w a i) : grew X w b i := hi.imp id (fun h2 => ⟨h2.1, by omega⟩)

theorem grown_trans {w W W' : World} {row r : Option Nat} (h : w.grownBy W row) (hg : W.grownBy W' r) (hr : ∀ k, r = some k → row = some k ∨ w.heap.size ≤ k) : w.grownBy W' row :=
  ⟨hg.os.trans h.os, hg.tape.trans h.tape, hg.output.trans h.output, Nat.le_trans h.size hg.size, fun k hk hne =>
    (hg.block k (Nat.lt_of_lt_of_le hk h.size) (fun e => by
      rcases hr k e.symm with h' | h'
      · exact hne h'.symm
      · omega)).trans (h.block k hk hne)⟩

theorem grown_refl (w : World) (row : Option Nat) : w.grownBy w row := ⟨rfl, rfl, rfl, Nat.le_refl _, fun _ _ _ => rfl⟩

theorem Ow.sl {N M : Nat} {w : World} {v : Value} {l : List UInt8} (h : Ow N w v l) (hM : w.heap.size ≤ M) : Sl M w v l := by
  obtain ⟨a, cap, rfl, h1, h2⟩ := h.shape
  refine ⟨a, cap, rfl, h1, h2, ?_⟩
  rcases h.2 with ⟨_, h0⟩ | ⟨g, cap', cur, hv, hg, hh, hc1, hc2, hc3, hc4⟩
  · exact .inl (List.length_eq_zero_iff.1 h0)
  · cases hv
    refine .inr ⟨g, 0, rfl, Nat.lt_of_lt_of_le (Array.getElem?_eq_some_iff.1 hh).1 hM, fun i hi => ?_⟩
    simp only [Nat.mul_one] at hc4
    have h5 : cur.toList[i]? = some (encB (l[i]?.getD 0)) := by
      have : (cur.toList.take l.length)[i]? = (l.map encB)[i]? := by rw [hc4]
      rw [List.getElem?_take, if_pos hi, List.getElem?_map] at this
      rw [this, List.getElem?_eq_getElem hi]; rfl
    simp only [World.cell?, hh, Nat.zero_add]
    simpa using h5

theorem Sl.mono {N M : Nat} {w : World} {v : Value} {l : List UInt8} (h : Sl N w v l) (hM : N ≤ M) : Sl M w v l := by
  obtain ⟨a, cap, rfl, h1, h2, h3⟩ := h
  refine ⟨a, cap, rfl, h1, h2, ?_⟩
  rcases h3 with h3 | ⟨b, off, e, hb, hc⟩
  · exact .inl h3
  · exact .inr ⟨b, off, e, by omega, hc⟩

theorem Sl.below {N : Nat} {w w' : World} {v : Value} {l : List UInt8} (h : Sl N w v l) (hB : Below N w w') : Sl N w' v l := by
  obtain ⟨a, cap, rfl, h1, h2, h3⟩ := h
  refine ⟨a, cap, rfl, h1, h2, ?_⟩
  rcases h3 with h3 | ⟨b, off, e, hb, hc⟩
  · exact .inl h3
  · exact .inr ⟨b, off, e, hb, fun i hi => (hB.cell (p := ⟨b, off + i, none⟩) hb).trans (hc i hi)⟩

theorem run_append_ow (ty : TypeId) (w : World) (N M : Nat) (v xv : Value) (l m : List UInt8) (hv : Ow N w v l) (hsl : Sl M w xv m) (hlen : l.length + m.length ≤ 140737488355328) (hN : N ≤ w.heap.size) :
    ∃ v' w', (Builtin.append_ #[30, 30] ty #[v, xv]).run Try.prog w = .ok v' w' ∧ Ow N w' v' (l ++ m) ∧ w.grownBy w' v.ownBlock ∧ (v'.ownBlock = v.ownBlock ∨ v'.ownBlock = some w.heap.size) := by
  obtain ⟨i0, hi, hz0, hz1, hz2⟩ := info_parts info5
  obtain ⟨a, cap, rfl, h1, h2, h3⟩ := hsl
  have key : ∀ ad : Addr, (∀ j u, (m.map encB)[j]? = some u → w.cell? (ad.add j) = some u) → ∃ v' w', (Builtin.append_ #[30, 30] ty #[v, .slice (some ad) m.length cap]).run Try.prog w = .ok v' w' ∧ Ow N w' v' (l ++ m) ∧ w.grownBy w' v.ownBlock ∧ (v'.ownBlock = v.ownBlock ∨ v'.ownBlock = some w.heap.size) := by
    intro ad had
    obtain ⟨v', w', r1, r2, r3, _, r5⟩ := run_append_own_at (P := Try.prog) w N 30 ty 5 i0 (.int .u8 0) 1 1 Try.underlying30 hi hz0 hz1 hz2 rfl (by decide) v l.length (l.map encB) hv ad m.length cap (m.map encB) (by simp) had (by intro u hu; obtain ⟨x, _, rfl⟩ := List.mem_map.1 hu; rfl) (by unfold maxLen; omega) (by omega) hN
    exact ⟨v', w', r1, by unfold Ow; simpa using r2, r3, r5⟩
  rcases h3 with rfl | ⟨b, off, rfl, hb, hc⟩
  · cases a with
    | none =>
      refine ⟨v, w, ?_, by simpa using hv, grown_refl w _, .inl rfl⟩
      rcases hv.2 with ⟨rfl, _⟩ | ⟨g, cap', cur, rfl, _, _, hnc, _⟩
      · simp [Builtin.append_, run_underlying Try.underlying30, sizeOf, typeInfo, hi, Builtin.lenOf, Builtin.firstCells]
      · simp [Builtin.append_, run_underlying Try.underlying30, sizeOf, typeInfo, hi, Builtin.lenOf, Builtin.firstCells, hnc, storeCells]
    | some ad => exact key ad (by simp)
  · refine key _ (fun j u hj => ?_)
    simp only [List.getElem?_map, Option.map_eq_some_iff] at hj
    obtain ⟨x, hx, rfl⟩ := hj
    have hlt := (List.getElem?_eq_some_iff.1 hx).1
    have := hc j hlt
    rw [hx] at this
    rw [Addr.add_lit]
    simpa using this

/-- An append of bytes onto bytes of the call's own, as a law of the walk. -/
theorem wpList_append_ow {ops : Array Oper} {rest : List Oper} {o : Oper} {a : Act} {Q : Exit → Act → World → Prop} {w : World} (hgd : o.guard = none) (s x : Operand)
    (ho : o.op = .call { callee := .builtin .append, args := #[s, x], argTypes := #[30, 30] })
    (N M : Nat) (v xv : Value) (l m : List UInt8) (hs : a.eval s = v) (hv : Ow N w v l) (hx : a.eval x = xv) (hsl : Sl M w xv m) (hlen : l.length + m.length ≤ 140737488355328) (hN : N ≤ w.heap.size)
    (h : ∀ v' w', Ow N w' v' (l ++ m) → w.grownBy w' v.ownBlock → (v'.ownBlock = v.ownBlock ∨ v'.ownBlock = some w.heap.size) → wpList Try.prog ops Q rest (a.put o.dst v') w') :
    wpList Try.prog ops Q (o :: rest) a w := by
  refine wpList_plain hgd fun K hK => ?_
  obtain ⟨v', w', hr, h2, h3, h4⟩ := run_append_ow o.type w N M v xv l m hv hsl hlen hN
  unfold Oper.wp execOp
  simp only [ho, resolve, invoke, builtin, Sem.run_bind, Sem.run_pure, Result.andThen_ok, List.map_toArray, List.map_cons, List.map_nil, hs, hx, hr]
  exact hK _ _ (h v' w' h2 h3 h4)

theorem Ow.nil (N : Nat) (w : World) : Ow N w (.slice none 0 0) [] := World.ownsRow_nil _ _ _ _

set_option maxRecDepth 100000 in
set_option maxHeartbeats 400000 in
/-- The document's Bytes: a copy in new memory. -/
theorem bytes_any (M : Nat) (v : Value) (l : List UInt8) (w : World) (hv : Sl M w v l) (hM : M ≤ w.heap.size) (hl : l.length ≤ 140737488355328) :
    Calls Try.prog 17 #[v] w fun e w' => ∃ v', e = .returned v' ∧ Ow w.heap.size w' v' l ∧ Below w.heap.size w w' := by
  obtain ⟨a, cap, rfl, -⟩ := id hv
  go_enter Try.func17, Try.ntmps17
  have hO0 : Ow w.heap.size (w.alloc (.cells #[] 5)) (.slice (some ⟨w.heap.size, 0, none⟩) 0 0) [] :=
    ⟨by simp, .inr ⟨w.heap.size, 0, #[], rfl, Nat.le_refl _, heap_alloc_new w _, by simp, by unfold maxLen; omega, by simp, by simp⟩⟩
  have hB0 : Below w.heap.size w (w.alloc (.cells #[] 5)) := (Below.refl _ w).alloc (Nat.le_refl _) _
  have hv1 := hv.below (hB0.mono hM)
  go_wp2_with (at_builtin; refine wpList_append_ow rfl _ _ rfl w.heap.size M _ _ [] l rfl hO0 rfl hv1 (by simpa using hl) (by simp) ?_; intro v' w1 hO hg _)
  go_ret
  exact ⟨v', rfl, hO, hB0.grown hg (by simp) (fun k e => by cases e; exact Nat.le_refl _)⟩
theorem Ow.kept {N : Nat} {w w' : World} {v : Value} {l : List UInt8} {row : Option Nat} (h : Ow N w v l) (hg : w.grownBy w' row) (hne : v.ownBlock = none ∨ v.ownBlock ≠ row) : Ow N w' v l := World.ownsRow.kept h hg hne

theorem Ow.not_at {N : Nat} {w : World} {v : Value} {l : List UInt8} (h : Ow N w v l) {R : Nat} {cs : Array Value} {t : TypeId} {z : Nat × Nat} (hR : w.heap[R]? = some (.cells cs t z)) (ht : t ≠ 5) : v.ownBlock ≠ some R := by
  rcases h.2 with ⟨rfl, _⟩ | ⟨g, cap, cur, rfl, _, hgb, _⟩
  · simp [Value.ownBlock]
  · intro e'
    obtain rfl : g = R := by simpa [Value.ownBlock] using e'
    rw [hR] at hgb
    simp at hgb
    exact ht hgb.2.1

theorem Ow.below {N B : Nat} {w w' : World} {v : Value} {l : List UInt8} (h : Ow N w v l) (hB : Below B w w') (hs : w.heap.size ≤ B) : Ow N w' v l :=
  h.kept (row := none) ⟨hB.os, hB.tape, hB.output, hB.size, fun k hk _ => hB.block k (by omega)⟩ (by cases v.ownBlock <;> simp)

theorem Ow.alloc {N : Nat} {w : World} {v : Value} {l : List UInt8} (h : Ow N w v l) (o : Obj) : Ow N (w.alloc o) v l :=
  h.kept (World.grownBy_alloc w o none) (by cases v.ownBlock <;> simp)

/-- Bytes that are written out. -/
theorem sl_new (w : World) (l : List UInt8) (c : Array Value) (hl : 0 < l.length) (hm : l.length ≤ 1000) (hc : c.toList = l.map encB) : Sl (w.heap.size + 1) (w.alloc (.cells c 5)) (.slice (some ⟨w.heap.size, 0, none⟩) l.length l.length) l := by
  refine ⟨_, _, rfl, Nat.le_refl _, by unfold maxLen; omega, .inr ⟨_, _, rfl, by omega, fun i hi => ?_⟩⟩
  have h : (w.alloc (.cells c 5)).heap[w.heap.size]? = some (.cells c 5) := heap_alloc_new w _
  simp only [World.cell?, h, Nat.zero_add]
  have : c.toList[i]? = (l.map encB)[i]? := by rw [hc]
  rw [List.getElem?_map, List.getElem?_eq_getElem hi] at this
  simpa [hi] using this

theorem Ow.base {N N' : Nat} {w : World} {v : Value} {l : List UInt8} (h : Ow N w v l) (hN : N' ≤ N) : Ow N' w v l := by
  refine ⟨h.1, ?_⟩
  rcases h.2 with h2 | ⟨g, cap, cur, hv, hg, r⟩
  · exact .inl h2
  · exact .inr ⟨g, cap, cur, hv, by omega, r⟩

theorem heap_set {W : World} {B : Nat} {cs : Array Value} {t : TypeId} {z : Nat × Nat} (h : W.heap[B]? = some (.cells cs t z)) (o : Nat) (u : Value) : (W.setCell ⟨B, o, none⟩ u).heap[B]? = some (.cells (cs.setIfInBounds o u) t z) := by
  simp only [World.setCell, Array.getElem?_modify, if_pos]
  rw [h]; rfl
theorem size_set (W : World) (a : Addr) (u : Value) : (W.setCell a u).heap.size = W.heap.size := by simp [World.setCell]
theorem Out.put {X : Nat → Prop} {w a : World} {b o : Nat} {u : Value} (h : Out X w a) (hb : X b) : Out X w (a.setCell ⟨b, o, none⟩ u) := h.trans (Out.set (X := X) hb) (fun _ hi _ => hi)
theorem Out.drew {X : Nat → Prop} (w : World) (n : Nat) : Out X w (w.drewN n) := ⟨rfl, rfl, rfl, Nat.le_refl _, fun _ _ _ => rfl⟩
theorem Out.alloc {X : Nat → Prop} {w a : World} (h : Out X w a) (o : Obj) : Out X w (a.alloc o) := h.trans (Y := fun _ => False) (Out.of_below ((Below.refl _ _).alloc (Nat.le_refl _) _)) (fun _ h _ => h.elim)

theorem Ow.out {X : Nat → Prop} {N : Nat} {w w' : World} {v : Value} {l : List UInt8} (h : Ow N w v l) (hO : Out X w w') (hx : ∀ g, v.ownBlock = some g → ¬ X g) : Ow N w' v l := by
  refine ⟨h.1, ?_⟩
  rcases h.2 with h2 | ⟨g, cap, cur, rfl, hg, hb, r⟩
  · exact .inl h2
  · exact .inr ⟨g, cap, cur, rfl, hg, (hO.block g (Array.getElem?_eq_some_iff.1 hb).1 (hx g rfl)).trans hb, r⟩

theorem Ow.lt {N : Nat} {w : World} {v : Value} {l : List UInt8} (h : Ow N w v l) {g : Nat} (hg : v.ownBlock = some g) : N ≤ g ∧ g < w.heap.size := by
  rcases h.2 with ⟨rfl, _⟩ | ⟨g', cap, cur, rfl, hN, hgb, _⟩
  · simp [Value.ownBlock] at hg
  · simp [Value.ownBlock] at hg
    subst hg
    exact ⟨hN, (Array.getElem?_eq_some_iff.1 hgb).1⟩

theorem Sl.nil (M : Nat) (w : World) : Sl M w (.slice none 0 0) [] := ⟨none, 0, rfl, by simp, by unfold maxLen; omega, .inl rfl⟩

theorem Ow.store {N : Nat} {w : World} {g cap : Nat} {l : List UInt8} (h : Ow N w (.slice (some ⟨g, 0, none⟩) l.length cap) l) (k : Nat) (x : UInt8) :
    Ow N (w.setCell ⟨g, k, none⟩ (encB x)) (.slice (some ⟨g, 0, none⟩) l.length cap) (l.set k x) := by
  rcases h.2 with ⟨h0, h1⟩ | ⟨g', cap', cur, hv, hg, hh, hc1, hc2, hc3, hc4⟩
  · cases h0
  · cases hv
    refine ⟨by simp, .inr ⟨g, cap, cur.set! k (encB x), by simp, hg, ?_, by simpa using hc1, hc2, by simpa using hc3, ?_⟩⟩
    · obtain ⟨hlt, he⟩ := Array.getElem?_eq_some_iff.1 hh
      show (w.heap.modify g _)[g]? = _
      rw [Array.getElem?_eq_getElem (by rw [Array.size_modify]; exact hlt), Array.getElem_modify_self, he]
      simp
    · simp only [Nat.mul_one, List.length_set] at hc4 ⊢
      rw [Array.set!_eq_setIfInBounds, Array.toList_setIfInBounds, List.take_set, hc4, List.map_set]
theorem Ow.can {N : Nat} {w : World} {a : Option Addr} {cap : Nat} {l : List UInt8} (h : Ow N w (.slice a l.length cap) l) (k : Nat) (hk : k < l.length) : ∃ g u, a = some ⟨g, 0, none⟩ ∧ w.cell? ⟨g, k, none⟩ = some u ∧ w.frozen? ⟨g, k, none⟩ = false ∧ g < w.heap.size := by
  rcases h.2 with ⟨h0, h1⟩ | ⟨g, cap', cur, hv, hg, hh, hc1, hc2, hc3, hc4⟩
  · omega
  · cases hv
    have hlt := (Array.getElem?_eq_some_iff.1 hh).1
    refine ⟨g, cur[k]'(by omega), rfl, ?_, by simp [World.frozen?, hh], hlt⟩
    simp only [World.cell?, hh]
    simp [show k < cur.size by omega]


theorem Ow.lent {N M : Nat} {w : World} {g cap : Nat} {l : List UInt8} (h : Ow N w (.slice (some ⟨g, 0, none⟩) (l.length + 1) cap) (l ++ [201])) (hM : w.heap.size ≤ M) : Sl M w (.slice (some ⟨g, 0, none⟩) l.length cap) l := by
  obtain ⟨a, c, e, h1, h2, h3⟩ := h.sl hM
  have hlen : (l ++ [(201 : UInt8)]).length = l.length + 1 := by simp
  rw [hlen] at e h1
  cases e
  refine ⟨_, _, rfl, by omega, h2, ?_⟩
  obtain ⟨b, off, e2, hb, hc⟩ := h3.resolve_left (by simp)
  refine .inr ⟨b, off, e2, hb, fun i hi => ?_⟩
  rw [hc i (by omega)]
  simp [List.getElem?_append, hi]

theorem Ow.mark {N : Nat} {w : World} {g cap : Nat} {l : List UInt8} (h : Ow N w (.slice (some ⟨g, 0, none⟩) (l.length + 1) cap) (l ++ [201])) : w.cell? ⟨g, l.length, none⟩ = some (.int .u8 201) ∧ l.length + 1 ≤ cap ∧ cap ≤ maxLen := by
  obtain ⟨a, c, e, h1, h2, h3⟩ := h.sl (Nat.le_refl _)
  have hlen : (l ++ [(201 : UInt8)]).length = l.length + 1 := by simp
  rw [hlen] at e h1
  cases e
  obtain ⟨b, off, e2, hb, hc⟩ := h3.resolve_left (by simp)
  cases e2
  refine ⟨?_, h1, h2⟩
  have := hc l.length (by omega)
  rw [Nat.zero_add] at this
  rw [this]
  simp [encB]

set_option maxRecDepth 100000 in
set_option maxHeartbeats 4000000 in
theorem lent_any (M : Nat) (v : Value) (l : List UInt8) (w : World) (hv : Sl M w v l) (hM : M ≤ w.heap.size) (hl : l.length ≤ 140737488351232) :
    Calls Try.prog 28 #[v] w fun e w' => ∃ g cap, e = .returned (.slice (some ⟨g, 0, none⟩) l.length cap) ∧ Ow w.heap.size w' (.slice (some ⟨g, 0, none⟩) (l.length + 1) cap) (l ++ [201]) ∧ Below w.heap.size w w' := by
  obtain ⟨a, c, rfl, -⟩ := id hv
  go_enter Try.func28, Try.ntmps28
  go_wp2_with fail
  refine (bytes_any M _ l _ hv hM (by omega)).mono ?_
  rintro e w1 ⟨v1, rfl, hO1, hB1⟩
  obtain ⟨a1, c1, rfl, -, -⟩ := hO1.shape
  have hz1 := hB1.size
  have hs2 := sl_new w1 [201] #[.int .u8 201] (by simp) (by simp) (by rfl)
  have hO2 := hO1.alloc (.cells #[.int .u8 201] 5)
  have hlen : (l ++ [(201 : UInt8)]).length = l.length + 1 := by simp
  go_wp2_with (at_builtin; refine wpList_append_ow rfl _ _ rfl w.heap.size _ _ _ l [201] rfl hO2 rfl hs2 (by simp; omega) (by simp; omega) ?_; intro v3 w3 hO3 hg3 hn3; obtain ⟨a3, c3, rfl, hc3, hm3⟩ := hO3.shape; obtain ⟨g, u, rfl, hgl, -, -⟩ := hO3.can 0 (by simp); rw [hlen] at hO3 hc3 ⊢; have hc3' : l.length ≤ c3 := by omega)
  go_ret
  refine ⟨g, c3, rfl, hO3, ?_⟩
  exact (hB1.alloc hz1 _).grown hg3 (by simp; omega) (fun k hk => (World.ownsRow.lt hO1 k hk).1)

set_option maxRecDepth 100000 in
set_option maxHeartbeats 4000000 in
theorem kept_any (N g cap : Nat) (v : Value) (l : List UInt8) (w : World) (hl : l.length ≤ 140737488351232) (hO : Ow N w (.slice (some ⟨g, 0, none⟩) (l.length + 1) cap) (l ++ [201])) (hv : Sl w.heap.size w v l) :
    Calls Try.prog 29 #[.slice (some ⟨g, 0, none⟩) l.length cap, v] w fun e w' => e = .returned (.bool true) ∧ ∃ n, w' = w.drewN n := by
  have hs := hO.lent (Nat.le_refl _)
  obtain ⟨hmk, hc, hm⟩ := hO.mark
  obtain ⟨a, c, rfl, -⟩ := id hv
  unfold maxLen at hm
  go_enter Try.func29, Try.ntmps29
  go_wp2_with fail
  refine (same_any _ _ _ l l _ hs hv).mono ?_
  rintro e w1 ⟨rfl, n1, rfl⟩
  simp only [decide_true]
  have hmk1 : (w.drewN n1).cell? ⟨g, l.length, none⟩ = some (.int .u8 201) := hmk
  clear hs hv hO
  go_wp2
  go_ret
  exact ⟨rfl, _, rfl⟩


end Go.Proofs.Ytefbfjlmhfmiiaa
