/-
  Bytes in memory: slices that read a list of bytes; slices of the call's own; copies; whether two are the same.
-/
import Derived.Test.YtnahghldlkjleaaGreatDoorProg
import Derived.Below
import Derived.WalkKit
import Derived.WalkSpells
import Derived.WalkLawsBesides
import Derived.BigQuiet
import Derived.Deep.QuietTactic
import Derived.Deep.RegionWith
import Derived.Laws.AppendOwnNone
import Derived.Maps.AppendAt
import Derived.Maps.RangeWalk
import Derived.Maps.OwnSet
namespace Go.Proofs.YtnahghldlkjleaaGreatDoor
open Go.RowKit

def encB (x : UInt8) : Value := .int .u8 (x.toNat : Int)

set_option maxHeartbeats 400000 in
theorem num_any (n : Int) (w : World) : Calls Tryz.prog 17 #[.int .i64 n] w fun e w' => e = .returned (.int .i64 n) ∧ w' = w := by
  go_enter Tryz.func17, Tryz.ntmps17
  go_wp2
  go_ret
  exact ⟨rfl, rfl⟩

/-- v is a slice of bytes that reads l, in a block below N. -/
def Sl (N : Nat) (W : World) (v : Value) (l : List UInt8) : Prop :=
  ∃ (a : Option Addr) (cap : Nat), v = .slice a l.length cap ∧ l.length ≤ cap ∧ cap ≤ maxLen ∧
    (l = [] ∨ ∃ b off, a = some ⟨b, off, none⟩ ∧ b < N ∧ ∀ i, i < l.length → W.cell? ⟨b, off + i, none⟩ = some (encB (l[i]?.getD 0)))

theorem encB_inj {x y : UInt8} (h : (x.toNat : Int) = (y.toNat : Int)) : x = y := UInt8.toNat_inj.1 (by omega)

theorem same_yes {l1 l2 : List UInt8} (hl : l1.length = l2.length) (h : ∀ j, j < l1.length → l1[j]?.getD 0 = l2[j]?.getD 0) : l1 = l2 := by
  apply List.ext_getElem hl
  intro i h1 h2
  have := h i h1
  simpa [List.getElem?_eq_getElem h1, List.getElem?_eq_getElem h2] using this

set_option maxRecDepth 100000 in
set_option maxHeartbeats 1000000 in
theorem same_any (N : Nat) (v1 v2 : Value) (l1 l2 : List UInt8) (w : World) (h1 : Sl N w v1 l1) (h2 : Sl N w v2 l2) :
    Calls Tryz.prog 83 #[v1, v2] w fun e w' => e = .returned (.bool (decide (l1 = l2))) ∧ ∃ n, w' = w.drewN n := by
  obtain ⟨a1, cap1, rfl, hc1, hm1, g1⟩ := h1
  obtain ⟨a2, cap2, rfl, hc2, hm2, g2⟩ := h2
  unfold maxLen at hm1 hm2
  by_cases hlen : l1.length = l2.length
  · have e1 : ((l1.length : Int) != (l2.length : Int)) = false := by simp [hlen]
    by_cases hz : l1 = []
    · subst hz
      obtain rfl : l2 = [] := List.length_eq_zero_iff.1 (by simpa using hlen.symm)
      clear hlen
      go_enter Tryz.func83, Tryz.ntmps83
      go_wp2
      go_loop [5] (fun i => i = .int .i64 0) (fun _ => 0)
      case atStart => rfl
      case round =>
        subst hrel
        go_wp2
        go_ret
        exact ⟨rfl, 0, rfl⟩
    · have hp : 0 < l1.length := List.length_pos_iff.2 hz
      obtain ⟨b1, o1, rfl, -, f1⟩ := g1.resolve_left hz
      obtain ⟨b2, o2, rfl, -, f2⟩ := g2.resolve_left (by intro h; rw [h] at hlen; simp at hlen; exact hz hlen)
      have HL : Hid (l1.length = l2.length) := hlen
      have hle : l1.length ≤ l2.length := by omega
      clear hlen
      go_enter Tryz.func83, Tryz.ntmps83
      go_wp2
      go_loopw [5] (fun i wr => ∃ k n : Nat, i = .int .i64 k ∧ k ≤ l1.length ∧ wr = w.drewN n ∧ ∀ j, j < k → l1[j]?.getD 0 = l2[j]?.getD 0) (fun i _ => l1.length - (intOf i).toNat)
      case atStart => exact ⟨0, 0, rfl, by omega, rfl, fun j hj => by omega⟩
      case round =>
        obtain ⟨k, n, rfl, hk, rfl, hj⟩ := hrel
        by_cases hlt : k < l1.length
        · have c1 := f1 k hlt
          have c2 := f2 k (by omega)
          have HJ : Hid (∀ j, j < k → l1[j]?.getD 0 = l2[j]?.getD 0) := hj
          clear hj f1 f2
          unfold encB at c1 c2
          generalize hx1 : l1[k]?.getD 0 = x1 at c1
          generalize hx2 : l2[k]?.getD 0 = x2 at c2
          have H1 : Hid (l1[k]?.getD 0 = x1) := hx1
          have H2 : Hid (l2[k]?.getD 0 = x2) := hx2
          clear hx1 hx2
          by_cases he : x1 = x2
          · subst he
            go_wp2
            go_quiet (fail)
            go_wp2
            go_roundw
            case rel => 
              refine ⟨k + 1, _, by go_num, by omega, rfl, fun j hj => ?_⟩
              by_cases e : j = k
              · subst e; rw [H1.out, H2.out]
              · exact HJ.out j (by omega)
            case measure => simp [intOf]; omega
          · have hb : (((x1.toNat : Int)) != (x2.toNat : Int)) = true := by
              rw [bne_iff_ne]; intro h; exact he (encB_inj h)
            have HN : Hid (decide (l1 = l2) = false) := by
              show decide (l1 = l2) = false
              simp only [decide_eq_false_iff_not]; intro h; apply he; rw [← H1.out, ← H2.out, h]
            clear he
            go_wp2
            go_quiet (fail)
            go_wp2
            go_ret
            rw [HN.out]
            exact ⟨rfl, n + nq, by simp⟩
        · have HN : Hid (decide (l1 = l2) = true) := by
            show decide (l1 = l2) = true
            simp only [decide_eq_true_eq]
            exact same_yes HL.out (fun j hj' => hj j (by omega))
          clear hj
          go_wp2
          go_ret
          rw [HN.out]
          exact ⟨rfl, _, rfl⟩
  · have e1 : ((l1.length : Int) != (l2.length : Int)) = true := by simp; omega
    have e2 : decide (l1 = l2) = false := by simp; intro h; exact hlen (by rw [h])
    rw [e2]
    clear hlen e2
    go_enter Tryz.func83, Tryz.ntmps83
    go_wp2
    go_ret
    exact ⟨rfl, 0, rfl⟩
theorem info5 : (Tryz.prog.info? 5).map (fun i => (i.zero, i.size, i.bytes)) = some (some (.int .u8 0), 1, 1) := by kernel_rfl

/-- v is a slice of bytes of the call's own, from block N on, that reads l. -/
def Ow (N : Nat) (W : World) (v : Value) (l : List UInt8) : Prop := W.ownsRow N 5 1 v l.length (l.map encB)

theorem encB_one (x : UInt8) : (encB x).oneCell' = true := rfl

/-- One byte more, behind an append of the call's own. -/
theorem Ow.snoc {N : Nat} {w' : World} {v' : Value} {l : List UInt8} {x : UInt8} {u : Value} (hu : u = encB x) (h : w'.ownsRow N 5 1 v' (l.length + 1) (l.map encB ++ [u])) : Ow N w' v' (l ++ [x]) := by
  subst hu; unfold Ow; simpa using h

theorem Ow.shape {N : Nat} {w : World} {v : Value} {l : List UInt8} (h : Ow N w v l) : ∃ a cap, v = .slice a l.length cap ∧ l.length ≤ cap ∧ cap ≤ maxLen := by
  rcases h.2 with ⟨rfl, h2⟩ | ⟨g, cap, cur, rfl, _, _, h3, h4, _⟩
  · exact ⟨none, 0, by rw [h2], by omega, by unfold maxLen; omega⟩
  · exact ⟨_, _, rfl, h3, h4⟩

theorem grown_trans {w W W' : World} {row r : Option Nat} (h : w.grownBy W row) (hg : W.grownBy W' r) (hr : ∀ k, r = some k → row = some k ∨ w.heap.size ≤ k) : w.grownBy W' row :=
  ⟨hg.os.trans h.os, hg.tape.trans h.tape, hg.output.trans h.output, Nat.le_trans h.size hg.size, fun k hk hne =>
    (hg.block k (Nat.lt_of_lt_of_le hk h.size) (fun e => by
      rcases hr k e.symm with h' | h'
      · exact hne h'.symm
      · omega)).trans (h.block k hk hne)⟩

theorem grown_refl (w : World) (row : Option Nat) : w.grownBy w row := ⟨rfl, rfl, rfl, Nat.le_refl _, fun _ _ _ => rfl⟩

theorem Ow.sl {N M : Nat} {w : World} {v : Value} {l : List UInt8} (h : Ow N w v l) (hM : w.heap.size ≤ M) : Sl M w v l := by
  obtain ⟨a, cap, rfl, h1, h2⟩ := h.shape
  refine ⟨a, cap, rfl, h1, h2, ?_⟩
  rcases h.2 with ⟨_, h0⟩ | ⟨g, cap', cur, hv, hg, hh, hc1, hc2, hc3, hc4⟩
  · exact .inl (List.length_eq_zero_iff.1 h0)
  · cases hv
    refine .inr ⟨g, 0, rfl, Nat.lt_of_lt_of_le (Array.getElem?_eq_some_iff.1 hh).1 hM, fun i hi => ?_⟩
    simp only [Nat.mul_one] at hc4
    have h5 : cur.toList[i]? = some (encB (l[i]?.getD 0)) := by
      have : (cur.toList.take l.length)[i]? = (l.map encB)[i]? := by rw [hc4]
      rw [List.getElem?_take, if_pos hi, List.getElem?_map] at this
      rw [this, List.getElem?_eq_getElem hi]; rfl
    simp only [World.cell?, hh, Nat.zero_add]
    simpa using h5

theorem Sl.mono {N M : Nat} {w : World} {v : Value} {l : List UInt8} (h : Sl N w v l) (hM : N ≤ M) : Sl M w v l := by
  obtain ⟨a, cap, rfl, h1, h2, h3⟩ := h
  refine ⟨a, cap, rfl, h1, h2, ?_⟩
  rcases h3 with h3 | ⟨b, off, e, hb, hc⟩
  · exact .inl h3
  · exact .inr ⟨b, off, e, by omega, hc⟩

theorem Sl.below {N : Nat} {w w' : World} {v : Value} {l : List UInt8} (h : Sl N w v l) (hB : Below N w w') : Sl N w' v l := by
  obtain ⟨a, cap, rfl, h1, h2, h3⟩ := h
  refine ⟨a, cap, rfl, h1, h2, ?_⟩
  rcases h3 with h3 | ⟨b, off, e, hb, hc⟩
  · exact .inl h3
  · exact .inr ⟨b, off, e, hb, fun i hi => (hB.cell (p := ⟨b, off + i, none⟩) hb).trans (hc i hi)⟩

theorem run_append_ow (ty : TypeId) (w : World) (N M : Nat) (v xv : Value) (l m : List UInt8) (hv : Ow N w v l) (hsl : Sl M w xv m) (hlen : l.length + m.length ≤ 1099511627776) (hN : N ≤ w.heap.size) :
    ∃ v' w', (Builtin.append_ #[55, 55] ty #[v, xv]).run Tryz.prog w = .ok v' w' ∧ Ow N w' v' (l ++ m) ∧ w.grownBy w' v.ownBlock ∧ (v'.ownBlock = v.ownBlock ∨ v'.ownBlock = some w.heap.size) := by
  obtain ⟨i0, hi, hz0, hz1, hz2⟩ := info_parts info5
  obtain ⟨a, cap, rfl, h1, h2, h3⟩ := hsl
  have key : ∀ ad : Addr, (∀ j u, (m.map encB)[j]? = some u → w.cell? (ad.add j) = some u) → ∃ v' w', (Builtin.append_ #[55, 55] ty #[v, .slice (some ad) m.length cap]).run Tryz.prog w = .ok v' w' ∧ Ow N w' v' (l ++ m) ∧ w.grownBy w' v.ownBlock ∧ (v'.ownBlock = v.ownBlock ∨ v'.ownBlock = some w.heap.size) := by
    intro ad had
    obtain ⟨v', w', r1, r2, r3, _, r5⟩ := run_append_own_at (P := Tryz.prog) w N 55 ty 5 i0 (.int .u8 0) 1 1 Tryz.underlying55 hi hz0 hz1 hz2 rfl (by decide) v l.length (l.map encB) hv ad m.length cap (m.map encB) (by simp) had (by intro u hu; obtain ⟨x, _, rfl⟩ := List.mem_map.1 hu; rfl) (by unfold maxLen; omega) (by omega) hN
    exact ⟨v', w', r1, by unfold Ow; simpa using r2, r3, r5⟩
  rcases h3 with rfl | ⟨b, off, rfl, hb, hc⟩
  · cases a with
    | none =>
      refine ⟨v, w, ?_, by simpa using hv, grown_refl w _, .inl rfl⟩
      rcases hv.2 with ⟨rfl, _⟩ | ⟨g, cap', cur, rfl, _, _, hnc, _⟩
      · simp [Builtin.append_, run_underlying Tryz.underlying55, sizeOf, typeInfo, hi, Builtin.lenOf, Builtin.firstCells]
      · simp [Builtin.append_, run_underlying Tryz.underlying55, sizeOf, typeInfo, hi, Builtin.lenOf, Builtin.firstCells, hnc, storeCells]
    | some ad => exact key ad (by simp)
  · refine key _ (fun j u hj => ?_)
    simp only [List.getElem?_map, Option.map_eq_some_iff] at hj
    obtain ⟨x, hx, rfl⟩ := hj
    have hlt := (List.getElem?_eq_some_iff.1 hx).1
    have := hc j hlt
    rw [hx] at this
    rw [Addr.add_lit]
    simpa using this

/-- An append of bytes onto bytes of the call's own, as a law of the walk. -/
theorem wpList_append_ow {ops : Array Oper} {rest : List Oper} {o : Oper} {a : Act} {Q : Exit → Act → World → Prop} {w : World} (hgd : o.guard = none) (s x : Operand)
    (ho : o.op = .call { callee := .builtin .append, args := #[s, x], argTypes := #[55, 55] })
    (N M : Nat) (v xv : Value) (l m : List UInt8) (hs : a.eval s = v) (hv : Ow N w v l) (hx : a.eval x = xv) (hsl : Sl M w xv m) (hlen : l.length + m.length ≤ 1099511627776) (hN : N ≤ w.heap.size)
    (h : ∀ v' w', Ow N w' v' (l ++ m) → w.grownBy w' v.ownBlock → (v'.ownBlock = v.ownBlock ∨ v'.ownBlock = some w.heap.size) → wpList Tryz.prog ops Q rest (a.put o.dst v') w') :
    wpList Tryz.prog ops Q (o :: rest) a w := by
  refine wpList_plain hgd fun K hK => ?_
  obtain ⟨v', w', hr, h2, h3, h4⟩ := run_append_ow o.type w N M v xv l m hv hsl hlen hN
  unfold Oper.wp execOp
  simp only [ho, resolve, invoke, builtin, Sem.run_bind, Sem.run_pure, Result.andThen_ok, List.map_toArray, List.map_cons, List.map_nil, hs, hx, hr]
  exact hK _ _ (h v' w' h2 h3 h4)

theorem Ow.nil (N : Nat) (w : World) : Ow N w (.slice none 0 0) [] := World.ownsRow_nil _ _ _ _

set_option maxRecDepth 100000 in
set_option maxHeartbeats 400000 in
/-- wire.fresh: a copy in new memory. -/
theorem fresh_any (M : Nat) (v : Value) (l : List UInt8) (w : World) (hv : Sl M w v l) (hl : l.length ≤ 1099511627776) :
    Calls Tryz.prog 67 #[v] w fun e w' => ∃ v', e = .returned v' ∧ Ow w.heap.size w' v' l ∧ Below w.heap.size w w' := by
  obtain ⟨a, cap, rfl, -⟩ := id hv
  go_enter Tryz.func67, Tryz.ntmps67
  go_wp2_with (at_builtin; refine wpList_append_ow rfl _ _ rfl w.heap.size M _ _ [] l rfl (Ow.nil _ _) rfl hv (by simpa using hl) (Nat.le_refl _) ?_; intro v' w1 hO hg _)
  go_ret
  exact ⟨v', rfl, hO, (Below.refl _ _).grown hg (Nat.le_refl _) (fun k e => by cases e)⟩

set_option maxRecDepth 100000 in
set_option maxHeartbeats 400000 in
/-- The document's Bytes: a copy in new memory. -/
theorem bytes_any (M : Nat) (v : Value) (l : List UInt8) (w : World) (hv : Sl M w v l) (hM : M ≤ w.heap.size) (hl : l.length ≤ 1099511627776) :
    Calls Tryz.prog 44 #[v] w fun e w' => ∃ v', e = .returned v' ∧ Ow w.heap.size w' v' l ∧ Below w.heap.size w w' := by
  obtain ⟨a, cap, rfl, -⟩ := id hv
  go_enter Tryz.func44, Tryz.ntmps44
  have hO0 : Ow w.heap.size (w.alloc (.cells #[] 5)) (.slice (some ⟨w.heap.size, 0, none⟩) 0 0) [] :=
    ⟨by simp, .inr ⟨w.heap.size, 0, #[], rfl, Nat.le_refl _, heap_alloc_new w _, by simp, by unfold maxLen; omega, by simp, by simp⟩⟩
  have hB0 : Below w.heap.size w (w.alloc (.cells #[] 5)) := (Below.refl _ w).alloc (Nat.le_refl _) _
  have hv1 := hv.below (hB0.mono hM)
  go_wp2_with (at_builtin; refine wpList_append_ow rfl _ _ rfl w.heap.size M _ _ [] l rfl hO0 rfl hv1 (by simpa using hl) (by simp) ?_; intro v' w1 hO hg _)
  go_ret
  exact ⟨v', rfl, hO, hB0.grown hg (by simp) (fun k e => by cases e; exact Nat.le_refl _)⟩
theorem Ow.kept {N : Nat} {w w' : World} {v : Value} {l : List UInt8} {row : Option Nat} (h : Ow N w v l) (hg : w.grownBy w' row) (hne : v.ownBlock = none ∨ v.ownBlock ≠ row) : Ow N w' v l := World.ownsRow.kept h hg hne

theorem Ow.not_at {N : Nat} {w : World} {v : Value} {l : List UInt8} (h : Ow N w v l) {R : Nat} {cs : Array Value} {t : TypeId} {z : Nat × Nat} (hR : w.heap[R]? = some (.cells cs t z)) (ht : t ≠ 5) : v.ownBlock ≠ some R := by
  rcases h.2 with ⟨rfl, _⟩ | ⟨g, cap, cur, rfl, _, hgb, _⟩
  · simp [Value.ownBlock]
  · intro e'
    obtain rfl : g = R := by simpa [Value.ownBlock] using e'
    rw [hR] at hgb
    simp at hgb
    exact ht hgb.2.1

theorem Ow.below {N B : Nat} {w w' : World} {v : Value} {l : List UInt8} (h : Ow N w v l) (hB : Below B w w') (hs : w.heap.size ≤ B) : Ow N w' v l :=
  h.kept (row := none) ⟨hB.os, hB.tape, hB.output, hB.size, fun k hk _ => hB.block k (by omega)⟩ (by cases v.ownBlock <;> simp)

theorem Ow.alloc {N : Nat} {w : World} {v : Value} {l : List UInt8} (h : Ow N w v l) (o : Obj) : Ow N (w.alloc o) v l :=
  h.kept (World.grownBy_alloc w o none) (by cases v.ownBlock <;> simp)

/-- Bytes that are written out. -/
theorem sl_new (w : World) (l : List UInt8) (c : Array Value) (hl : 0 < l.length) (hm : l.length ≤ 1000) (hc : c.toList = l.map encB) : Sl (w.heap.size + 1) (w.alloc (.cells c 5)) (.slice (some ⟨w.heap.size, 0, none⟩) l.length l.length) l := by
  refine ⟨_, _, rfl, Nat.le_refl _, by unfold maxLen; omega, .inr ⟨_, _, rfl, by omega, fun i hi => ?_⟩⟩
  have h : (w.alloc (.cells c 5)).heap[w.heap.size]? = some (.cells c 5) := heap_alloc_new w _
  simp only [World.cell?, h, Nat.zero_add]
  have : c.toList[i]? = (l.map encB)[i]? := by rw [hc]
  rw [List.getElem?_map, List.getElem?_eq_getElem hi] at this
  simpa [hi] using this

theorem Ow.base {N N' : Nat} {w : World} {v : Value} {l : List UInt8} (h : Ow N w v l) (hN : N' ≤ N) : Ow N' w v l := by
  refine ⟨h.1, ?_⟩
  rcases h.2 with h2 | ⟨g, cap, cur, hv, hg, r⟩
  · exact .inl h2
  · exact .inr ⟨g, cap, cur, hv, by omega, r⟩

theorem Sl.nil (M : Nat) (w : World) : Sl M w (.slice none 0 0) [] := ⟨none, 0, rfl, by simp, by unfold maxLen; omega, .inl rfl⟩

end Go.Proofs.YtnahghldlkjleaaGreatDoor
