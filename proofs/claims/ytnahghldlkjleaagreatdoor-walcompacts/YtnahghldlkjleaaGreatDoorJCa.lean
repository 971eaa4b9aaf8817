/-
  The plain mathematics of the wire form: the bytes of a number, the bytes that a number may have, the number that bytes tell. No program is named here. What the leaves do: Num, isNumber, the document's Size: each returns what the plain mathematics says, and the world stands. What the document's own PutInt answers: for every number its bytes in new memory, else none and the error 1. What the document's own Int answers, at any place of any bytes. Bits: the byte with 80 (hex) added, the byte without it, seven bits laid above what was there. The two iterators: bytesOf yields the bytes of a number, bytesAhead the bytes that a number may have; whoever goes over them may stop at any. wire.Size, wire.PutInt: for every int what the document says. The iterator bytesAhead: it yields the bytes that a number may have, up to the one that ends it. A region that draws its order, within a round of a range over a function: what holds outside a round holds in it, where nothing is deferred. wire.Int: at any place of any bytes what the document says.
-/
import Derived.Below
import Derived.Test.YtnahghldlkjleaaGreatDoorProg
import Derived.WalkKit
import Derived.WalkSpells
import Derived.WalkLawsBesides
import Derived.BigQuiet
import Derived.Deep.QuietTactic
import Derived.Laws.Bits64b
import Derived.RangeFuncNested
import Derived.RangeFuncBound
import Derived.RangeFuncCalls
import Derived.RangeFuncLeaves
import Derived.RangeFuncBox
import Derived.Shelf.Abstract
import Derived.Shelf.RegionOpen
import Derived.OwnWalkIn
import Derived.TacticsInMore
import Derived.LoopNIn
import Derived.LoopIn
import Derived.Maps.AppendAt
import Derived.Maps.OwnIn
import Derived.OrdersIn
namespace Go.Proofs.YtnahghldlkjleaaGreatDoor.Cd

/-- The bytes of a number, the lowest seven bits first; f: how many more bytes there may be. -/
def num : Nat → Nat → List UInt8
  | 0, n => [UInt8.ofNat n]
  | f + 1, n => if n < 128 then [UInt8.ofNat n] else UInt8.ofNat (n % 128 + 128) :: num f (n / 128)

/-- The number's bytes, as the document has them. -/
def numB (n : Nat) : List UInt8 := num 9 n

/-- The bytes ahead, up to the one that ends a number, f at most. -/
def ahead : Nat → List UInt8 → List UInt8
  | 0, _ => []
  | _ + 1, [] => []
  | f + 1, x :: l => if x.toNat < 128 then [x] else x :: ahead f l

/-- What seven bits each tell, the lowest first. -/
def val : List UInt8 → Nat
  | [] => 0
  | x :: l => x.toNat % 128 + 128 * val l

def lastB (p : List UInt8) : Nat := (p.getLastD 0).toNat

/-- The answer to bytes of which p are those that a number may have: the number, its bytes, the error. -/
def verdict (p : List UInt8) : Nat × Nat × Nat :=
  if 128 ≤ lastB p ∧ p.length < 9 then (0, 0, 2)
  else if 128 ≤ lastB p then (0, 0, 4)
  else if lastB p = 0 ∧ 1 < p.length then (0, 0, 4)
  else if 4611686018427387904 < val p then (0, 0, 1)
  else (val p, p.length, 0)

/-- The number at a place, as the document has it. -/
def intAt (b : List UInt8) (at' : Int) : Nat × Nat × Nat :=
  if at' < 0 ∨ (b.length : Int) ≤ at' then (0, 0, 2) else verdict (ahead 9 (b.drop at'.toNat))

theorem num_lt {f n : Nat} (h : n < 128) : num f n = [UInt8.ofNat n] := by
  cases f <;> simp [num, h]

theorem num_ge {f n : Nat} (h : 128 ≤ n) : num (f + 1) n = UInt8.ofNat (n % 128 + 128) :: num f (n / 128) := by
  simp [num, Nat.not_lt.2 h]

theorem num_ne (f n : Nat) : num f n ≠ [] := by
  cases f with
  | zero => simp [num]
  | succ f => simp only [num]; split <;> simp

theorem num_len_pos (f n : Nat) : 0 < (num f n).length := List.length_pos_iff.2 (num_ne f n)

theorem num_len_le : ∀ (f n : Nat), (num f n).length ≤ f + 1
  | 0, n => by simp [num]
  | f + 1, n => by
    simp only [num]; split
    · simp
    · have := num_len_le f (n / 128); simp; omega

theorem ahead_len_le : ∀ (f : Nat) (l : List UInt8), (ahead f l).length ≤ f
  | 0, l => by simp [ahead]
  | f + 1, [] => by simp [ahead]
  | f + 1, x :: l => by
    simp only [ahead]; split
    · simp
    · have := ahead_len_le f l; simp; omega

theorem ahead_len_le' : ∀ (f : Nat) (l : List UInt8), (ahead f l).length ≤ l.length
  | 0, l => by simp [ahead]
  | f + 1, [] => by simp [ahead]
  | f + 1, x :: l => by
    simp only [ahead]; split
    · simp
    · have := ahead_len_le' f l; simp; omega

theorem val_lt : ∀ (l : List UInt8), val l < 128 ^ l.length
  | [] => by simp [val]
  | x :: l => by
    have := val_lt l
    have h2 : x.toNat % 128 < 128 := Nat.mod_lt _ (by decide)
    simp only [val, List.length_cons, Nat.pow_succ]
    omega

theorem val_append (l m : List UInt8) : val (l ++ m) = val l + 128 ^ l.length * val m := by
  induction l with
  | nil => simp [val]
  | cons x l ih =>
    simp only [List.cons_append, val, ih, List.length_cons, Nat.pow_succ, Nat.mul_add]
    have : 128 * (128 ^ l.length * val m) = 128 ^ l.length * 128 * val m := by
      rw [Nat.mul_comm (128 ^ l.length) 128, Nat.mul_assoc]
    omega

end Go.Proofs.YtnahghldlkjleaaGreatDoor.Cd
namespace Go.Proofs.YtnahghldlkjleaaGreatDoor.Cd
open Go.RowKit

def encB (x : UInt8) : Value := .int .u8 (x.toNat : Int)

/-- Is it a number of the document's? -/
def isNumB (n : Int) : Bool := decide (0 ≤ n ∧ n ≤ 4611686018427387904)

set_option maxHeartbeats 400000 in
theorem num_any (n : Int) (w : World) : Calls Tryz.prog 17 #[.int .i64 n] w fun e w' => e = .returned (.int .i64 n) ∧ w' = w := by
  go_enter Tryz.func17, Tryz.ntmps17
  go_wp2
  go_ret
  exact ⟨rfl, rfl⟩

set_option maxHeartbeats 400000 in
theorem isNumber_any (n : Int) (w : World) : Calls Tryz.prog 261 #[.int .i64 n] w fun e w' => e = .returned (.bool (isNumB n)) ∧ w' = w := by
  by_cases h0 : 0 ≤ n
  · by_cases h1 : n ≤ 4611686018427387904
    · have e : isNumB n = true := by simp [isNumB, h0, h1]
      rw [e]; clear e
      go_enter Tryz.func261, Tryz.ntmps261
      go_wp2
      go_ret
      exact ⟨rfl, rfl⟩
    · have e : isNumB n = false := by simp [isNumB, h1]
      rw [e]; clear e
      go_enter Tryz.func261, Tryz.ntmps261
      go_wp2
      go_ret
      exact ⟨rfl, rfl⟩
  · have e : isNumB n = false := by simp [isNumB, h0]
    rw [e]; clear e
    have h0' : decide (0 ≤ n) = false := by simp; omega
    go_enter Tryz.func261, Tryz.ntmps261
    go_wp2
    go_ret
    exact ⟨rfl, rfl⟩

/-- The document's Size. -/
def sizeOf' (n : Int) : Nat := if isNumB n then (numB n.toNat).length else 0

set_option maxRecDepth 100000 in
set_option maxHeartbeats 1000000 in
theorem refSize_any (n : Int) (w : World) : Calls Tryz.prog 267 #[.int .i64 n] w fun e w' => e = .returned (.int .i64 (sizeOf' n)) ∧ w' = w := by
  by_cases h0 : n < 0
  · have e : sizeOf' n = 0 := by have : isNumB n = false := by simp [isNumB]; omega
                                 simp [sizeOf', this]
    rw [e]; clear e
    go_enter Tryz.func267, Tryz.ntmps267
    go_wp2
    go_ret
    exact ⟨rfl, rfl⟩
  · by_cases h1 : 4611686018427387904 < n
    · have e : sizeOf' n = 0 := by have : isNumB n = false := by simp [isNumB]; omega
                                   simp [sizeOf', this]
      rw [e]; clear e
      go_enter Tryz.func267, Tryz.ntmps267
      go_wp2
      go_ret
      exact ⟨rfl, rfl⟩
    · obtain ⟨m, rfl⟩ := Int.eq_ofNat_of_zero_le (Int.not_lt.1 h0)
      have e : sizeOf' (m : Int) = (numB m).length := by have : isNumB m = true := by simp [isNumB]; omega
                                                         simp [sizeOf', this]
      rw [e]; clear e
      have h0' : decide ((m : Int) < 0) = false := by simp
      go_enter Tryz.func267, Tryz.ntmps267
      go_wp2
      go_loop [0, 3] (fun a k => ∃ (f q s : Nat), a = .int .i64 (q : Int) ∧ k = .int .i64 (s : Int) ∧ q < 128 ^ (f + 1) ∧ f ≤ 9 ∧ s ≤ 10 - f ∧ q ≤ 4611686018427387904 ∧ s + (num f q).length = (numB m).length + 1) (fun a _ => (intOf a).toNat)
      case atStart => exact ⟨9, m, 1, rfl, rfl, by have : (128:Nat)^10 = 1180591620717411303424 := by decide
                                                   omega, by omega, by omega, by omega, by simp [numB]; omega⟩
      case round =>
        obtain ⟨f, q, s, rfl, rfl, hq, hf, hs, hq2, hl⟩ := hrel
        have HQ : Hid (q < 128 ^ (f + 1)) := hq
        have HL : Hid (s + (num f q).length = (numB m).length + 1) := hl
        clear hq hl
        by_cases hlt : 128 ≤ q
        · go_wp2
          go_round
          case rel =>
            have hq := HQ.out
            have hl := HL.out
            cases f with
            | zero => simp at hq; omega
            | succ f => 
              rw [num_ge hlt] at hl
              refine ⟨f, q / 128, s + 1, by go_num, by go_num, ?_, by omega, by omega, by omega, by simp at hl; omega⟩
              rw [Nat.pow_succ] at hq; omega
          case measure => simp [intOf]; omega
        · go_wp2
          go_ret
          have hl := HL.out
          rw [num_lt (by omega)] at hl
          simp at hl
          exact ⟨by rw [hl]; rfl, rfl⟩
/-- v is a slice of bytes that reads l, in a block below N. -/
def Sl (N : Nat) (W : World) (v : Value) (l : List UInt8) : Prop :=
  ∃ (a : Option Addr) (cap : Nat), v = .slice a l.length cap ∧ l.length ≤ cap ∧ cap ≤ maxLen ∧
    (l = [] ∨ ∃ b off, a = some ⟨b, off, none⟩ ∧ b < N ∧ ∀ i, i < l.length → W.cell? ⟨b, off + i, none⟩ = some (encB (l[i]?.getD 0)))

theorem encB_inj {x y : UInt8} (h : (x.toNat : Int) = (y.toNat : Int)) : x = y := UInt8.toNat_inj.1 (by omega)

theorem same_yes {l1 l2 : List UInt8} (hl : l1.length = l2.length) (h : ∀ j, j < l1.length → l1[j]?.getD 0 = l2[j]?.getD 0) : l1 = l2 := by
  apply List.ext_getElem hl
  intro i h1 h2
  have := h i h1
  simpa [List.getElem?_eq_getElem h1, List.getElem?_eq_getElem h2] using this

set_option maxRecDepth 100000 in
set_option maxHeartbeats 1000000 in
theorem same_any (N : Nat) (v1 v2 : Value) (l1 l2 : List UInt8) (w : World) (h1 : Sl N w v1 l1) (h2 : Sl N w v2 l2) :
    Calls Tryz.prog 83 #[v1, v2] w fun e w' => e = .returned (.bool (decide (l1 = l2))) ∧ ∃ n, w' = w.drewN n := by
  obtain ⟨a1, cap1, rfl, hc1, hm1, g1⟩ := h1
  obtain ⟨a2, cap2, rfl, hc2, hm2, g2⟩ := h2
  unfold maxLen at hm1 hm2
  by_cases hlen : l1.length = l2.length
  · have e1 : ((l1.length : Int) != (l2.length : Int)) = false := by simp [hlen]
    by_cases hz : l1 = []
    · subst hz
      obtain rfl : l2 = [] := List.length_eq_zero_iff.1 (by simpa using hlen.symm)
      clear hlen
      go_enter Tryz.func83, Tryz.ntmps83
      go_wp2
      go_loop [5] (fun i => i = .int .i64 0) (fun _ => 0)
      case atStart => rfl
      case round =>
        subst hrel
        go_wp2
        go_ret
        exact ⟨rfl, 0, rfl⟩
    · have hp : 0 < l1.length := List.length_pos_iff.2 hz
      obtain ⟨b1, o1, rfl, -, f1⟩ := g1.resolve_left hz
      obtain ⟨b2, o2, rfl, -, f2⟩ := g2.resolve_left (by intro h; rw [h] at hlen; simp at hlen; exact hz hlen)
      have HL : Hid (l1.length = l2.length) := hlen
      have hle : l1.length ≤ l2.length := by omega
      clear hlen
      go_enter Tryz.func83, Tryz.ntmps83
      go_wp2
      go_loopw [5] (fun i wr => ∃ k n : Nat, i = .int .i64 k ∧ k ≤ l1.length ∧ wr = w.drewN n ∧ ∀ j, j < k → l1[j]?.getD 0 = l2[j]?.getD 0) (fun i _ => l1.length - (intOf i).toNat)
      case atStart => exact ⟨0, 0, rfl, by omega, rfl, fun j hj => by omega⟩
      case round =>
        obtain ⟨k, n, rfl, hk, rfl, hj⟩ := hrel
        by_cases hlt : k < l1.length
        · have c1 := f1 k hlt
          have c2 := f2 k (by omega)
          have HJ : Hid (∀ j, j < k → l1[j]?.getD 0 = l2[j]?.getD 0) := hj
          clear hj f1 f2
          unfold encB at c1 c2
          generalize hx1 : l1[k]?.getD 0 = x1 at c1
          generalize hx2 : l2[k]?.getD 0 = x2 at c2
          have H1 : Hid (l1[k]?.getD 0 = x1) := hx1
          have H2 : Hid (l2[k]?.getD 0 = x2) := hx2
          clear hx1 hx2
          by_cases he : x1 = x2
          · subst he
            go_wp2
            go_quiet (fail)
            go_wp2
            go_roundw
            case rel => 
              refine ⟨k + 1, _, by go_num, by omega, rfl, fun j hj => ?_⟩
              by_cases e : j = k
              · subst e; rw [H1.out, H2.out]
              · exact HJ.out j (by omega)
            case measure => simp [intOf]; omega
          · have hb : (((x1.toNat : Int)) != (x2.toNat : Int)) = true := by
              rw [bne_iff_ne]; intro h; exact he (encB_inj h)
            have HN : Hid (decide (l1 = l2) = false) := by
              show decide (l1 = l2) = false
              simp only [decide_eq_false_iff_not]; intro h; apply he; rw [← H1.out, ← H2.out, h]
            clear he
            go_wp2
            go_quiet (fail)
            go_wp2
            go_ret
            rw [HN.out]
            exact ⟨rfl, n + nq, by simp⟩
        · have HN : Hid (decide (l1 = l2) = true) := by
            show decide (l1 = l2) = true
            simp only [decide_eq_true_eq]
            exact same_yes HL.out (fun j hj' => hj j (by omega))
          clear hj
          go_wp2
          go_ret
          rw [HN.out]
          exact ⟨rfl, _, rfl⟩
  · have e1 : ((l1.length : Int) != (l2.length : Int)) = true := by simp; omega
    have e2 : decide (l1 = l2) = false := by simp; intro h; exact hlen (by rw [h])
    rw [e2]
    clear hlen e2
    go_enter Tryz.func83, Tryz.ntmps83
    go_wp2
    go_ret
    exact ⟨rfl, 0, rfl⟩
end Go.Proofs.YtnahghldlkjleaaGreatDoor.Cd
namespace Go.Proofs.YtnahghldlkjleaaGreatDoor.Cd
open Go.RowKit

theorem info5 : (Tryz.prog.info? 5).map (fun i => (i.zero, i.size, i.bytes)) = some (some (.int .u8 0), 1, 1) := by kernel_rfl

/-- The bytes of a number, none of what is no number. -/
def putB (n : Int) : List UInt8 := if isNumB n then numB n.toNat else []
def putE (n : Int) : Int := if isNumB n then 0 else 1

theorem putB_len (n : Int) : (putB n).length ≤ 10 := by
  unfold putB; split
  · exact num_len_le 9 _
  · simp

/-- v is a slice of bytes of the call's own, from block N on, that reads l. -/
def Ow (N : Nat) (W : World) (v : Value) (l : List UInt8) : Prop := W.ownsRow N 5 1 v l.length (l.map encB)

theorem encB_one (x : UInt8) : (encB x).oneCell' = true := rfl

/-- One byte more, behind an append of the call's own. -/
theorem Ow.snoc {N : Nat} {w' : World} {v' : Value} {l : List UInt8} {x : UInt8} {u : Value} (hu : u = encB x) (h : w'.ownsRow N 5 1 v' (l.length + 1) (l.map encB ++ [u])) : Ow N w' v' (l ++ [x]) := by
  subst hu; unfold Ow; simpa using h

theorem u8_lo (q : Nat) (h : q < 128) : Value.int .u8 (q : Int) = encB (UInt8.ofNat q) := by
  simp [encB]; omega
theorem u8_hi (q : Nat) : Value.int .u8 (((q % 128 + 128 : Nat)) : Int) = encB (UInt8.ofNat (q % 128 + 128)) := by
  simp [encB]; omega

set_option maxRecDepth 100000 in
set_option maxHeartbeats 1000000 in
theorem refPut_any (n : Int) (w : World) : Calls Tryz.prog 229 #[.int .i64 n] w fun e w' => ∃ v, e = .returned (.tuple #[v, .int .i64 (putE n)]) ∧ Ow w.heap.size w' v (putB n) ∧ Below w.heap.size w w' := by
  obtain ⟨i0, hi, hz0, hz1, hz2⟩ := info_parts info5
  by_cases hN : isNumB n = true
  · have e1 : putE n = 0 := by simp [putE, hN]
    have e2 : putB n = numB n.toNat := by simp [putB, hN]
    rw [e1, e2]
    have hs : sizeOf' n = (numB n.toNat).length := by simp [sizeOf', hN]
    have hpos := num_len_pos 9 n.toNat
    have hrange : 0 ≤ n ∧ n ≤ 4611686018427387904 := by simpa [isNumB] using hN
    clear e1 e2 hN
    obtain ⟨h0, h1⟩ := hrange
    obtain ⟨m, rfl⟩ := Int.eq_ofNat_of_zero_le h0
    have hcall := fun w => refSize_any (m : Int) w
    rw [hs] at hcall
    have ht : (((numB (m : Int).toNat).length : Int) == 0) = false := by rw [beq_eq_false_iff_ne]; unfold numB; omega
    simp only [Int.toNat_natCast] at *
    have HC := hcall
    clear hs hpos h0
    go_enter Tryz.func229, Tryz.ntmps229
    go_wp2_with (go_at_call 267; refine (hcall _).mono ?_; rintro e w' ⟨rfl, rfl⟩)
    go_loopw [0, 4] (fun a v wr => ∃ (f q : Nat) (pre : List UInt8), a = .int .i64 (q : Int) ∧ wr.ownsRow w'.heap.size 5 1 v pre.length (pre.map encB) ∧ q < 128 ^ (f + 1) ∧ f ≤ 9 ∧ q ≤ 4611686018427387904 ∧ pre ++ num f q = numB m ∧ pre.length + f = 9 ∧ Below w'.heap.size w' wr) (fun a _ _ => (intOf a).toNat)
    case atStart => exact ⟨9, m, [], rfl, World.ownsRow_nil _ _ _ _, by have : (128:Nat)^10 = 1180591620717411303424 := by decide
                                                                        omega, by omega, by omega, rfl, rfl, Below.refl _ _⟩
    case round =>
      obtain ⟨f, q, pre, rfl, hown, hq, hf, hq2, hl, hpl, hB⟩ := hrel
      have HQ : Hid (q < 128 ^ (f + 1)) := hq
      have HL : Hid (pre ++ num f q = numB m) := hl
      have hpl' : pre.length ≤ 9 := by omega
      have HP : Hid (pre.length + f = 9) := hpl
      have hsz := hB.size
      clear hq hl hpl
      by_cases hlt : 128 ≤ q
      · go_wp2_with (at_builtin; refine wpList_append_own _ rfl _ _ 55 rfl w'.heap.size 5 i0 (.int .u8 0) 1 1 Tryz.underlying55 hi hz0 hz1 hz2 rfl (by decide) _ _ _ rfl (hown.alloc _) ⟨wr.heap.size, 0, none⟩ 1 1 [.int .u8 ((q : Int) % 128 + 128)] rfl rfl (cell_one_new _ _ _) (by intro u hu; simp at hu; subst hu; rfl) (by unfold maxLen; omega) (by omega) (by simp; omega) ?_; intro v' w1 hown' hgrow _)
        have hB1 : Below w'.heap.size w' w1 := (hB.alloc hsz _).grown hgrow (by simp; omega) (fun k hk => (hown.lt k hk).1)
        have hO := Ow.snoc (x := UInt8.ofNat (q % 128 + 128)) (by rw [← u8_hi]; simp) hown'
        clear hown' hgrow hown hB
        go_wp2
        go_roundw
        case rel =>
          cases f with
          | zero => have := HQ.out; simp at this; omega
          | succ f =>
            refine ⟨f, q / 128, _, by go_num, hO, ?_, by omega, by omega, ?_, ?_, hB1⟩
            · have := HQ.out; rw [Nat.pow_succ] at this; omega
            · have := HL.out; rw [num_ge hlt] at this; simpa using this
            · have := HP.out; simp; omega
        case measure => simp [intOf]; omega
      · go_wp2_with (at_builtin; refine wpList_append_own _ rfl _ _ 55 rfl w'.heap.size 5 i0 (.int .u8 0) 1 1 Tryz.underlying55 hi hz0 hz1 hz2 rfl (by decide) _ _ _ rfl (hown.alloc _) ⟨wr.heap.size, 0, none⟩ 1 1 [.int .u8 (q : Int)] rfl rfl (cell_one_new _ _ _) (by intro u hu; simp at hu; subst hu; rfl) (by unfold maxLen; omega) (by omega) (by simp; omega) ?_; intro v' w1 hown' hgrow _)
        have hB1 : Below w'.heap.size w' w1 := (hB.alloc hsz _).grown hgrow (by simp; omega) (fun k hk => (hown.lt k hk).1)
        have hO := Ow.snoc (x := UInt8.ofNat q) (by rw [u8_lo q (by omega)]) hown'
        clear hown' hgrow hown hB
        go_wp2
        go_ret2
        refine ⟨_, rfl, ?_, hB1⟩
        have := HL.out
        rw [num_lt (by omega)] at this
        rw [← this]; exact hO
  · have hN' : isNumB n = false := by simpa using hN
    have e1 : putE n = 1 := by simp [putE, hN']
    have e2 : putB n = [] := by simp [putB, hN']
    rw [e1, e2]
    have hs : sizeOf' n = 0 := by simp [sizeOf', hN']
    have hcall := fun w => refSize_any n w
    rw [hs] at hcall
    clear e1 e2 hN hN' hs
    go_enter Tryz.func229, Tryz.ntmps229
    go_wp2_with (go_at_call 267; refine (hcall _).mono ?_; rintro e w' ⟨rfl, rfl⟩)
    go_ret2
    exact ⟨_, rfl, World.ownsRow_nil _ _ _ _, Below.refl _ _⟩
end Go.Proofs.YtnahghldlkjleaaGreatDoor.Cd
namespace Go.Proofs.YtnahghldlkjleaaGreatDoor.Cd
open Go.RowKit

/-- The answer of three numbers, as the program hands it back. -/
def tup3 (r : Nat × Nat × Nat) : Value := .tuple #[.int .i64 (r.1 : Int), .int .i64 (r.2.1 : Int), .int .i64 (r.2.2 : Int)]

def byteAt (l : List UInt8) (i : Nat) : UInt8 := l[i]?.getD 0

theorem ahead_go : ∀ (k f : Nat) (p : List UInt8), k ≤ f → k ≤ p.length → (∀ j, j < k → 128 ≤ (byteAt p j).toNat) → ahead f p = p.take k ++ ahead (f - k) (p.drop k)
  | 0, f, p, _, _, _ => by simp
  | k + 1, 0, p, h, _, _ => by omega
  | k + 1, f + 1, [], _, h, _ => by simp at h
  | k + 1, f + 1, x :: p, h1, h2, h3 => by
    have h0 := h3 0 (by omega)
    simp [byteAt] at h0
    have := ahead_go k f p (by omega) (by simpa using h2) (fun j hj => by have := h3 (j + 1) (by omega); simpa [byteAt] using this)
    simp [ahead, Nat.not_lt.2 h0, this]

theorem byteAt_drop (l : List UInt8) (a j : Nat) : byteAt (l.drop a) j = byteAt l (a + j) := by simp [byteAt]

theorem lastB_snoc (p : List UInt8) (x : UInt8) : lastB (p ++ [x]) = x.toNat := by simp [lastB]

theorem take_snocB (l : List UInt8) (k : Nat) (h : k < l.length) : l.take (k + 1) = l.take k ++ [byteAt l k] := by
  rw [List.take_succ_eq_append_getElem h]; simp [byteAt, h]

theorem drop_consB (l : List UInt8) (k : Nat) (h : k < l.length) : l.drop k = byteAt l k :: l.drop (k + 1) := by
  rw [List.drop_eq_getElem_cons h]; simp [byteAt, h]

/-- Nine bytes, none of which ends a number. -/
theorem verdict_nine (l : List UInt8) (a : Nat) (h : a + 9 ≤ l.length) (h3 : ∀ j, j < 9 → 128 ≤ (byteAt l (a + j)).toNat) : intAt l a = (0, 0, 4) := by
  have e := ahead_go 9 9 (l.drop a) (by omega) (by simp; omega) (fun j hj => by rw [byteAt_drop]; exact h3 j hj)
  simp [ahead] at e
  have hl : lastB (ahead 9 (l.drop a)) = (byteAt l (a + 8)).toNat := by
    rw [e, take_snocB _ 8 (by simp; omega), lastB_snoc, byteAt_drop]
  have h8 := h3 8 (by omega)
  have hlen : (ahead 9 (l.drop a)).length = 9 := by rw [e]; simp; omega
  unfold intAt
  rw [if_neg (by omega)]
  simp only [Int.toNat_natCast]
  unfold verdict
  rw [if_neg (by omega), if_pos (by omega)]

/-- The bytes end within the number. -/
theorem verdict_short (l : List UInt8) (a k : Nat) (hk : k < 9) (h0 : a < l.length) (h : a + k = l.length) (h3 : ∀ j, j < k → 128 ≤ (byteAt l (a + j)).toNat) : intAt l a = (0, 0, 2) := by
  have e := ahead_go k 9 (l.drop a) (by omega) (by simp; omega) (fun j hj => by rw [byteAt_drop]; exact h3 j hj)
  have hd : (l.drop a).drop k = [] := by apply List.drop_eq_nil_of_le; simp; omega
  rw [hd] at e
  obtain ⟨k', rfl⟩ : ∃ k', k = k' + 1 := ⟨k - 1, by omega⟩
  have e2 : ahead 9 (l.drop a) = (l.drop a).take (k' + 1) := by
    rw [e]; cases hf : 9 - (k' + 1) <;> simp [ahead]
  have hl : lastB (ahead 9 (l.drop a)) = (byteAt l (a + k')).toNat := by
    rw [e2, take_snocB _ k' (by simp; omega), lastB_snoc, byteAt_drop]
  have h8 := h3 k' (by omega)
  have hlen : (ahead 9 (l.drop a)).length = k' + 1 := by rw [e2]; simp; omega
  unfold intAt
  rw [if_neg (by omega)]
  simp only [Int.toNat_natCast]
  unfold verdict
  rw [if_pos (by omega)]

/-- The bytes of the number are k and the one that ends it. -/
theorem ahead_end (l : List UInt8) (a k : Nat) (hk : k < 9) (h : a + k < l.length) (h3 : ∀ j, j < k → 128 ≤ (byteAt l (a + j)).toNat) (h4 : (byteAt l (a + k)).toNat < 128) :
    ahead 9 (l.drop a) = (l.drop a).take (k + 1) ∧ lastB (ahead 9 (l.drop a)) = (byteAt l (a + k)).toNat ∧ (ahead 9 (l.drop a)).length = k + 1 := by
  have e := ahead_go k 9 (l.drop a) (by omega) (by simp; omega) (fun j hj => by rw [byteAt_drop]; exact h3 j hj)
  obtain ⟨f, hf⟩ : ∃ f, 9 - k = f + 1 := ⟨8 - k, by omega⟩
  have hd : (l.drop a).drop k = byteAt l (a + k) :: (l.drop a).drop (k + 1) := by
    rw [drop_consB (l.drop a) k (by simp; omega), byteAt_drop]
  rw [hd, hf] at e
  have e2 : ahead 9 (l.drop a) = (l.drop a).take (k + 1) := by
    rw [e, take_snocB _ k (by simp; omega), byteAt_drop]; simp [ahead, h4]
  refine ⟨e2, ?_, ?_⟩
  · rw [e2, take_snocB _ k (by simp; omega), lastB_snoc, byteAt_drop]
  · rw [e2]; simp; omega

theorem verdict_zero (l : List UInt8) (a k : Nat) (hk : k < 9) (h : a + k < l.length) (h3 : ∀ j, j < k → 128 ≤ (byteAt l (a + j)).toNat) (h4 : (byteAt l (a + k)).toNat = 0) (h5 : 0 < k) : intAt l a = (0, 0, 4) := by
  obtain ⟨_, hl, hlen⟩ := ahead_end l a k hk h h3 (by omega)
  unfold intAt
  rw [if_neg (by omega)]
  simp only [Int.toNat_natCast]
  unfold verdict
  rw [if_neg (by omega), if_neg (by omega), if_pos (by omega)]

theorem verdict_num (l : List UInt8) (a k : Nat) (hk : k < 9) (h : a + k < l.length) (h3 : ∀ j, j < k → 128 ≤ (byteAt l (a + j)).toNat) (h4 : (byteAt l (a + k)).toNat < 128) (h5 : (byteAt l (a + k)).toNat = 0 → k = 0) :
    intAt l a = if 4611686018427387904 < val ((l.drop a).take (k + 1)) then (0, 0, 1) else (val ((l.drop a).take (k + 1)), k + 1, 0) := by
  obtain ⟨e, hl, hlen⟩ := ahead_end l a k hk h h3 h4
  unfold intAt
  rw [if_neg (by omega)]
  simp only [Int.toNat_natCast]
  unfold verdict
  rw [if_neg (by omega), if_neg (by omega), if_neg (by omega), hlen, e]

theorem intAt_off (l : List UInt8) (a : Int) (h : a < 0 ∨ (l.length : Int) ≤ a) : intAt l a = (0, 0, 2) := by
  unfold intAt; rw [if_pos h]

theorem val_dropB (l : List UInt8) (k : Nat) (h : k < l.length) : val (l.drop k) = (byteAt l k).toNat % 128 + 128 * val (l.drop (k + 1)) := by
  rw [drop_consB l k h]; rfl

theorem byteAt_take (l : List UInt8) (k j : Nat) (h : j < k) : byteAt (l.take k) j = byteAt l j := by
  simp [byteAt, h]

theorem Sl.cellAt {N : Nat} {w : World} {a : Option Addr} {l : List UInt8} (g : l = [] ∨ ∃ b off, a = some ⟨b, off, none⟩ ∧ b < N ∧ ∀ i, i < l.length → w.cell? ⟨b, off + i, none⟩ = some (encB (l[i]?.getD 0))) (h : 0 < l.length) :
    ∃ b off, a = some ⟨b, off, none⟩ ∧ b < N ∧ ∀ i, i < l.length → w.cell? ⟨b, off + i, none⟩ = some (.int .u8 ((byteAt l i).toNat : Int)) := by
  rcases g with rfl | ⟨b, off, h1, h2, h3⟩
  · simp at h
  · exact ⟨b, off, h1, h2, h3⟩

set_option maxRecDepth 100000 in
set_option maxHeartbeats 2000000 in
theorem refInt_any (N : Nat) (v : Value) (l : List UInt8) (i : Int) (w : World) (hv : Sl N w v l) (hl : l.length ≤ 140737488355328) :
    Calls Tryz.prog 226 #[v, .int .i64 i] w fun e w' => e = .returned (tup3 (intAt l i)) ∧ w' = w := by
  obtain ⟨a0, cap, rfl, hc, hm, g⟩ := hv
  unfold maxLen at hm
  by_cases h0 : i < 0
  · rw [intAt_off l i (.inl h0)]; unfold tup3
    go_enter Tryz.func226, Tryz.ntmps226
    go_wp2
    go_ret3
    exact ⟨rfl, rfl⟩
  · by_cases h1 : (l.length : Int) ≤ i
    · rw [intAt_off l i (.inr h1)]; unfold tup3
      have h0' : decide (i < 0) = false := by simpa using h0
      go_enter Tryz.func226, Tryz.ntmps226
      go_wp2
      go_ret3
      exact ⟨rfl, rfl⟩
    · obtain ⟨a, rfl⟩ := Int.eq_ofNat_of_zero_le (Int.not_lt.1 h0)
      have hal : a < l.length := by omega
      obtain ⟨b, off, rfl, -, hcell⟩ := Sl.cellAt g (by omega)
      have HC : Hid (∀ i, i < l.length → w.cell? ⟨b, off + i, none⟩ = some (.int .u8 ((byteAt l i).toNat : Int))) := hcell
      clear g h1 h0 hcell
      have h0' : decide ((a : Int) < 0) = false := by simp
      have h1' : decide ((l.length : Int) ≤ (a : Int)) = false := by simp; omega
      go_enter Tryz.func226, Tryz.ntmps226
      go_wp2
      go_loop [7] (fun k => ∃ q : Nat, k = .int .i64 (q : Int) ∧ q ≤ 9 ∧ a + q ≤ l.length ∧ ∀ j, j < q → 128 ≤ (byteAt l (a + j)).toNat) (fun k => 9 - (intOf k).toNat)
      case atStart => exact ⟨0, rfl, by omega, by omega, fun j hj => by omega⟩
      case round =>
        obtain ⟨k, rfl, hk9, hkl, hj⟩ := hrel
        have HJ : Hid (∀ j, j < k → 128 ≤ (byteAt l (a + j)).toNat) := hj
        clear hj
        by_cases hk : k < 9
        · by_cases hlt : a + k < l.length
          · have hcl := HC.out (a + k) hlt
            generalize hx : byteAt l (a + k) = x at hcl
            have HX : Hid (byteAt l (a + k) = x) := hx
            clear hx
            by_cases hx8 : 128 ≤ (x.toNat : Int)
            · go_wp2
              go_round
              case rel =>
                refine ⟨k + 1, by go_num, by omega, by omega, fun j hj => ?_⟩
                by_cases e : j = k
                · subst e; rw [HX.out]; omega
                · exact HJ.out j (by omega)
              case measure => simp [intOf]; omega
            · have hk9' : ((k : Int) == 9) = false := by rw [beq_eq_false_iff_ne]; omega
              by_cases hzz : 0 < k ∧ x.toNat = 0
              · obtain ⟨hk0, hx0⟩ := hzz
                have HV : Hid (intAt l a = (0, 0, 4)) := verdict_zero l a k hk hlt HJ.out (by rw [HX.out]; exact hx0) hk0
                have hx0' : ((x.toNat : Int) == 0) = true := by simp [hx0]
                clear hx0
                go_wp2
                go_ret3
                exact ⟨by rw [HV.out]; rfl, rfl⟩
              · have HV : Hid (intAt l a = if 4611686018427387904 < val ((l.drop a).take (k + 1)) then (0, 0, 1) else (val ((l.drop a).take (k + 1)), k + 1, 0)) :=
                  verdict_num l a k hk hlt HJ.out (by rw [HX.out]; omega) (by rw [HX.out]; intro h; omega)
                have hge' : decide ((l.length : Int) ≤ (a : Int) + (k : Int)) = false := by simp; omega
                have hsp : (0 < k ∧ ((x.toNat : Int) == 0) = false) ∨ decide (0 < k) = false := by
                  by_cases hk0 : 0 < k
                  · exact .inl ⟨hk0, by rw [beq_eq_false_iff_ne]; omega⟩
                  · exact .inr (by simp; omega)
                clear hzz
                generalize hp : (l.drop a).take (k + 1) = p at HV
                have hplen : p.length = k + 1 := by rw [← hp]; simp; omega
                have HPB : Hid (∀ j, j ≤ k → byteAt p j = byteAt l (a + j)) := by
                  intro j hj; rw [← hp, byteAt_take _ _ _ (by omega), byteAt_drop]
                have HPL : Hid (p.length = k + 1) := hplen
                clear hp hplen
                rcases hsp with ⟨hk0, hx0'⟩ | hk0'
                all_goals
                  go_wp2
                  go_loop [8, 9] (fun n i => ∃ c : Nat, c ≤ k + 1 ∧ i = .int .i64 ((c : Int) - 1) ∧ n = .int .i64 (val (p.drop c) : Int)) (fun _ i => (intOf i + 1).toNat)
                  case atStart => exact ⟨k + 1, by omega, by go_num, by rw [List.drop_eq_nil_of_le (by have := HPL.out; omega)]; rfl⟩
                  case round =>
                    obtain ⟨c, hck, hci, rfl⟩ := hrel
                    cases c with
                    | zero =>
                      subst hci
                      have hvb : val (p.drop 0) < 9223372036854775808 := by
                        have h1 := val_lt (p.drop 0)
                        have h2 : (p.drop 0).length ≤ 9 := by have := HPL.out; simp; omega
                        have h3 : 128 ^ (p.drop 0).length ≤ 128 ^ 9 := Nat.pow_le_pow_right (by decide) h2
                        have h4 : (128 : Nat) ^ 9 = 9223372036854775808 := by decide
                        omega
                      generalize hval : val (p.drop 0) = vv at hvb
                      have HVV : Hid (val (p.drop 0) = vv) := hval
                      clear hval
                      by_cases hbig : 4611686018427387904 < vv
                      · go_wp2
                        go_ret3
                        have hvv := HVV.out
                        simp only [List.drop_zero] at hvv
                        exact ⟨by rw [HV.out, hvv, if_pos hbig]; rfl, rfl⟩
                      · go_wp2
                        go_ret3
                        have hvv := HVV.out
                        simp only [List.drop_zero] at hvv
                        refine ⟨?_, rfl⟩
                        rw [HV.out, hvv, if_neg hbig]
                        show Ending.returned (.tuple #[.int .i64 (vv : Int), .int .i64 ((k : Int) + 1), .int .i64 0]) = _
                        simp [tup3]
                    | succ c =>
                      rw [show (((c + 1 : Nat) : Int) - 1) = (c : Int) by omega] at hci
                      subst hci
                      have hvb : val (p.drop (c + 1)) < 72057594037927936 := by
                        have h1 := val_lt (p.drop (c + 1))
                        have h2 : (p.drop (c + 1)).length ≤ 8 := by have := HPL.out; simp; omega
                        have h3 : 128 ^ (p.drop (c + 1)).length ≤ 128 ^ 8 := Nat.pow_le_pow_right (by decide) h2
                        have h4 : (128 : Nat) ^ 8 = 72057594037927936 := by decide
                        omega
                      have HD : Hid (val (p.drop c) = (byteAt l (a + c)).toNat % 128 + 128 * val (p.drop (c + 1))) := by
                        have := val_dropB p c (by have := HPL.out; omega)
                        rw [HPB.out c (by omega)] at this
                        exact this
                      have hcl2 := HC.out (a + c) (by omega)
                      generalize val (p.drop (c + 1)) = vv at hvb HD
                      generalize byteAt l (a + c) = y at hcl2 HD
                      have hy := y.toNat_lt
                      go_wp2
                      go_round
                      case rel => exact ⟨c, by omega, by go_num, by rw [HD.out]; go_num⟩
                      case measure => simp [intOf]
          · have HV : Hid (intAt l a = (0, 0, 2)) := verdict_short l a k hk hal (by omega) HJ.out
            have hk9' : ((k : Int) == 9) = false := by rw [beq_eq_false_iff_ne]; omega
            go_wp2
            go_ret3
            exact ⟨by rw [HV.out]; rfl, rfl⟩
        · obtain rfl : k = 9 := by omega
          have HV : Hid (intAt l a = (0, 0, 4)) := verdict_nine l a hkl HJ.out
          go_wp2
          go_ret3
          exact ⟨by rw [HV.out]; rfl, rfl⟩
end Go.Proofs.YtnahghldlkjleaaGreatDoor.Cd
namespace Go.Proofs.YtnahghldlkjleaaGreatDoor.Cd

theorem or128 (q : Nat) : bits BinOp.or IntKind.u8 ((q : Int) % 256) 128 = (q : Int) % 128 + 128 := by
  have h : ∀ x : Fin 256, bits BinOp.or IntKind.u8 (x.val : Int) 128 = (x.val : Int) % 128 + 128 := by decide +kernel
  have := h ⟨q % 256, by omega⟩
  rw [show ((q : Int) % 256) = ((q % 256 : Nat) : Int) by omega, this]
  simp only
  omega

theorem clear128 (x : UInt8) : bits BinOp.andNot IntKind.u8 (x.toNat : Int) 128 = ((x.toNat % 128 : Nat) : Int) := by
  have h : ∀ x : Fin 256, bits BinOp.andNot IntKind.u8 (x.val : Int) 128 = ((x.val % 128 : Nat) : Int) := by decide +kernel
  exact h ⟨x.toNat, x.toNat_lt⟩

theorem bits_or_i64_nat (a b : Nat) (ha : a < 9223372036854775808) (hb : b < 9223372036854775808) :
    bits .or .i64 (a : Int) (b : Int) = ((a ||| b : Nat) : Int) := by
  have hab : a ||| b < 2 ^ 63 := Nat.or_lt_two_pow (by omega) (by omega)
  have e : (BitVec.ofInt 64 (a : Int) ||| BitVec.ofInt 64 (b : Int)).toNat = a ||| b := by
    rw [BitVec.toNat_or]
    simp only [BitVec.toNat_ofInt]
    rw [show ((a : Int) % ((2 ^ 64 : Nat) : Int)).toNat = a by omega, show ((b : Int) % ((2 ^ 64 : Nat) : Int)).toNat = b by omega]
  show IntKind.i64.wrap ((BitVec.ofInt 64 (a : Int) ||| BitVec.ofInt 64 (b : Int)).toNat : Int) = _
  rw [e, IntKind.wrap_i64]
  omega

/-- 'n | c << (7 * k)', n below 2^(7 k). -/
theorem lay_above (n c k : Nat) (hk : k ≤ 8) (hn : n < 128 ^ k) (hc : c < 128) :
    bits .or .i64 (n : Int) (((c * 128 ^ k : Nat)) : Int) = ((n + 128 ^ k * c : Nat) : Int) := by
  have h3 : (128 : Nat) ^ k ≤ 128 ^ 8 := Nat.pow_le_pow_right (by decide) hk
  have h4 : (128 : Nat) ^ 8 = 72057594037927936 := by decide
  have h5 : c * 128 ^ k ≤ 127 * 72057594037927936 := Nat.mul_le_mul (by omega) (by omega)
  rw [bits_or_i64_nat _ _ (by omega) (by omega)]
  have e : (128 : Nat) ^ k = 2 ^ (7 * k) := by rw [Nat.pow_mul]
  rw [Nat.or_comm, Nat.mul_comm c, e, ← Nat.two_pow_add_eq_or_of_lt (by rw [← e]; exact hn), Nat.add_comm]
end Go.Proofs.YtnahghldlkjleaaGreatDoor.Cd
namespace Go.Proofs.YtnahghldlkjleaaGreatDoor.Cd
open Go.RowKit Go.Shelf
attribute [local go_sem] Oper.semAt_some

set_option maxRecDepth 100000 in
set_option maxHeartbeats 1000000 in
theorem bytesOf1_in (n : Nat) (hn : 1 ≤ n) (l Bn n₀ m : Nat) (hm : m ≤ 4611686018427387904) (J Jx : List UInt8 → World → Prop)
    (hY : ∀ pre x W, J pre W → pre.length < (numB m).length → YieldAt Fence.wide (n - 1) Tryz.prog l #[encB x] W fun e W' =>
      (e = .returned (.bool true) ∧ J (pre ++ [x]) W' ∧ Below n₀ W W') ∨ (e = .returned (.bool false) ∧ Jx (pre ++ [x]) W'))
    (W : World) (hBn : W.cell? ⟨Bn, 0, none⟩ = some (.int .i64 (m : Int))) (h0 : J [] W) :
    CallsIn Fence.wide n Tryz.prog 286 #[.func (.yield l) #[] #[], .pointer (some ⟨Bn, 0, none⟩)] W fun e W' => (∃ v, e = .returned v) ∧
      ((∃ ys, ys = numB m ∧ J ys W') ∨ (∃ pre, pre <+: numB m ∧ Jx pre W')) := by
  refine callsIn_of_wp Tryz.func286 rfl trivial ?_ rfl
  simp only [Tryz.ntmps286, List.size_toArray, List.length_cons, List.length_nil, Nat.reduceAdd, Nat.reduceSub, Array.replicate_succ, Array.replicate_zero, List.push_toArray, List.append_toArray, List.nil_append, List.cons_append]
  gi_wp2
  gi_loopw [3] (fun p wr => ∃ (f q : Nat) (pre : List UInt8), p = .int .i64 (q : Int) ∧ q < 128 ^ (f + 1) ∧ q ≤ 4611686018427387904 ∧ pre ++ num f q = numB m ∧ J pre wr)
    (fun p _ => (intOf p).toNat)
  case atStart =>
    exact ⟨9, m, [], rfl, by have : (128:Nat)^10 = 1180591620717411303424 := by decide
                             omega, hm, rfl, h0⟩
  case round =>
    obtain ⟨f, q, pre, rfl, hq, hq2, hx, hJs⟩ := hrel
    have HQ : Hid (q < 128 ^ (f + 1)) := hq
    have HX : Hid (pre ++ num f q = numB m) := hx
    clear hq hx
    by_cases hlt : 128 ≤ q
    · have hlen : pre.length < (numB m).length := by rw [← HX.out]; have := num_len_pos f q; simp; omega
      obtain ⟨fn, tmps, assign, body, hy, hR⟩ := hY pre (UInt8.ofNat (q % 128 + 128)) wr hJs hlen
      clear hlen
      rw [show encB (UInt8.ofNat (q % 128 + 128)) = .int .u8 ((q : Int) % 128 + 128) by rw [← u8_hi]; simp] at hy
      have hor := or128 q
      gi_wp2
      refine hR.mono ?_
      rintro e W3 (⟨rfl, hJ3, hk3⟩ | ⟨rfl, hJx3⟩)
      · clear hor hy hR
        gi_wp2
        go_roundw
        case rel =>
          cases f with
          | zero => have := HQ.out; simp at this; omega
          | succ f =>
            refine ⟨f, q / 128, _, ?_, ?_, by omega, ?_, hJ3⟩
            · go_num
            · have := HQ.out; rw [Nat.pow_succ] at this; omega
            · have := HX.out; rw [num_ge hlt] at this; simpa using this
        case measure => simp [intOf]; omega
      · clear hor hy hR
        gi_wp2
        refine bodyPost_ret (results_none rfl _ _ _) rfl ?_
        refine ⟨⟨_, rfl⟩, .inr ⟨_, ?_, hJx3⟩⟩
        cases f with
        | zero => have := HQ.out; simp at this; omega
        | succ f => have := HX.out; rw [num_ge hlt] at this; exact ⟨num f (q / 128), by simpa using this⟩
    · have hlen : pre.length < (numB m).length := by rw [← HX.out]; have := num_len_pos f q; simp; omega
      obtain ⟨fn, tmps, assign, body, hy, hR⟩ := hY pre (UInt8.ofNat q) wr hJs hlen
      clear hlen
      rw [← u8_lo q (by omega)] at hy
      have HE : Hid (pre ++ [UInt8.ofNat q] = numB m) := by have := HX.out; rw [num_lt (by omega)] at this; exact this
      gi_wp2
      refine hR.mono ?_
      rintro e W3 (⟨rfl, hJ3, hk3⟩ | ⟨rfl, hJx3⟩)
      · clear hy hR
        gi_wp2
        go_end0
        exact ⟨⟨_, rfl⟩, .inl ⟨_, HE.out, hJ3⟩⟩
      · clear hy hR
        gi_wp2
        go_end0
        exact ⟨⟨_, rfl⟩, .inr ⟨_, by rw [HE.out]; exact List.prefix_refl _, hJx3⟩⟩

set_option maxHeartbeats 1000000 in
theorem bytesOf_in (n : Nat) (m : Int) (w : World) :
    CallsIn Fence.wide n Tryz.prog 281 #[.int .i64 m] w fun e w' => e = .returned (.func (.func 286) #[] #[.pointer (some ⟨w.heap.size, 0, none⟩)]) ∧ w' = w.alloc (.cells #[.int .i64 m] 3) := by
  refine callsIn_of_wp Tryz.func281 rfl trivial ?_ rfl
  simp only [Tryz.ntmps281, List.size_toArray, List.length_cons, List.length_nil, Nat.reduceAdd, Nat.reduceSub, Array.replicate_succ, Array.replicate_zero, List.push_toArray, List.append_toArray, List.nil_append, List.cons_append]
  gi_wp2
  go_ret
  exact ⟨rfl, rfl⟩

theorem bytesOf_stops (n : Nat) (hn : 1 ≤ n) (Bn n₀ m : Nat) (hm : m ≤ 4611686018427387904) (w : World) (hBn : Bn < w.heap.size)
    (hc : w.cell? ⟨Bn, 0, none⟩ = some (.int .i64 (m : Int))) :
    SeqStopsK Fence.wide n Tryz.prog 286 #[.pointer (some ⟨Bn, 0, none⟩)] (fun x : UInt8 => #[encB x]) (Below n₀) (fun ys => ys = numB m) (fun pre => pre <+: numB m) (numB m).length w := fun l J Jx W hW _ _ hY h0 =>
  bytesOf1_in n hn l Bn n₀ m hm J Jx hY W ((hW.cell (p := ⟨Bn, 0, none⟩) hBn).trans hc) h0
end Go.Proofs.YtnahghldlkjleaaGreatDoor.Cd
namespace Go.Proofs.YtnahghldlkjleaaGreatDoor.Cd
open Go.RowKit Go.Shelf
attribute [local go_sem] Oper.semAt_some

/-- The block of a slice stayed its own, or is new. -/
def SameOrNew (w : World) (v v' : Value) : Prop := v'.ownBlock = v.ownBlock ∨ ∃ k, v'.ownBlock = some k ∧ w.heap.size ≤ k

theorem Ow.shape {N : Nat} {w : World} {v : Value} {l : List UInt8} (h : Ow N w v l) : ∃ a cap, v = .slice a l.length cap ∧ l.length ≤ cap ∧ cap ≤ maxLen := by
  rcases h.2 with ⟨rfl, h2⟩ | ⟨g, cap, cur, rfl, _, _, h3, h4, _⟩
  · exact ⟨none, 0, by rw [h2], by omega, by unfold maxLen; omega⟩
  · exact ⟨_, _, rfl, h3, h4⟩

theorem ownFrom_grown {β : Type} {w₀ : World} {row : Option Nat} {B : Nat} (hB : w₀.heap.size ≤ B) : OwnFrom B (fun (_ : β) W => w₀.grownBy W row) :=
  fun _ W W' r hs hg hr => ⟨hg.os.trans hs.os, hg.tape.trans hs.tape, hg.output.trans hs.output, Nat.le_trans hs.size hg.size, fun k hk hne =>
    (hg.block k (Nat.lt_of_lt_of_le hk hs.size) (fun e => by have := (hr k e.symm).1; omega)).trans (hs.block k hk hne)⟩

theorem grown_trans {w W W' : World} {row r : Option Nat} (h : w.grownBy W row) (hg : W.grownBy W' r) (hr : ∀ k, r = some k → row = some k ∨ w.heap.size ≤ k) : w.grownBy W' row :=
  ⟨hg.os.trans h.os, hg.tape.trans h.tape, hg.output.trans h.output, Nat.le_trans h.size hg.size, fun k hk hne =>
    (hg.block k (Nat.lt_of_lt_of_le hk h.size) (fun e => by
      rcases hr k e.symm with h' | h'
      · exact hne h'.symm
      · omega)).trans (h.block k hk hne)⟩

theorem grown_refl (w : World) (row : Option Nat) : w.grownBy w row := ⟨rfl, rfl, rfl, Nat.le_refl _, fun _ _ _ => rfl⟩

theorem SameOrNew.row {w : World} {v v' : Value} (h : SameOrNew w v v') : ∀ k, v'.ownBlock = some k → v.ownBlock = some k ∨ w.heap.size ≤ k := by
  intro k hk
  rcases h with h | ⟨j, h1, h2⟩
  · exact .inl (h ▸ hk)
  · rw [h1] at hk; cases hk; exact .inr h2

theorem SameOrNew.step {w W : World} {v v1 v2 : Value} (h : SameOrNew w v v1) (hs : w.heap.size ≤ W.heap.size) (h2 : v2.ownBlock = v1.ownBlock ∨ v2.ownBlock = some W.heap.size) : SameOrNew w v v2 := by
  rcases h2 with h2 | h2
  · rcases h with h | ⟨k, h3, h4⟩
    · exact .inl (h2.trans h)
    · exact .inr ⟨k, h2.trans h3, h4⟩
  · exact .inr ⟨_, h2, hs⟩

set_option maxRecDepth 100000 in
set_option maxHeartbeats 2000000 in
theorem appendInt_in (n : Nat) (hn : 3 ≤ n) (N : Nat) (v : Value) (l : List UInt8) (m : Nat) (hm : m ≤ 4611686018427387904) (w : World) (hN : N ≤ w.heap.size) (hl : l.length ≤ 1073741824) (hv : Ow N w v l) :
    CallsIn Fence.wide n Tryz.prog 263 #[v, .int .i64 (m : Int)] w fun e w' => ∃ v', e = .returned v' ∧ Ow N w' v' (l ++ numB m) ∧ w.grownBy w' v.ownBlock ∧ SameOrNew w v v' := by
  have h1 : 1 ≤ n := by omega
  obtain ⟨i0, hi, hz0, hz1, hz2⟩ := info_parts info5
  obtain ⟨a0, cap0, rfl, -, -⟩ := hv.shape
  generalize hv0 : Value.slice a0 l.length cap0 = v0 at hv
  refine callsIn_of_wp_marks Tryz.func263 rfl trivial ?_ rfl
  rw [← hv0]
  have HV0 : Hid (Value.slice a0 l.length cap0 = v0) := hv0
  clear hv0
  simp only [Tryz.ntmps263, List.size_toArray, List.length_cons, List.length_nil, Nat.reduceAdd, Nat.reduceSub, Array.replicate_succ, Array.replicate_zero, List.push_toArray, List.append_toArray, List.nil_append, List.cons_append]
  gi_wp2_with (refine ⟨trivial, ?_⟩; gi_at_call 281; refine (bytesOf_in (n - 1) _ _).mono ?_; rintro e w' ⟨rfl, hw⟩; subst w')
  have bO := Boxed.new w 55 (.slice a0 l.length cap0)
  have bN := Boxed.new (w.alloc (.cells #[.slice a0 l.length cap0] 55)) 3 (.int .i64 (m : Int))
  rw [World.size_alloc] at bN
  have g0 : w.grownBy ((w.alloc (.cells #[.slice a0 l.length cap0] 55)).alloc (.cells #[.int .i64 (m : Int)] 3)) v0.ownBlock := grown_trans (grown_trans (grown_refl w _) (World.grownBy_alloc _ _ none) (by simp)) (World.grownBy_alloc _ _ none) (by simp)
  have hv' : World.ownsRow w N 5 1 (.slice a0 l.length cap0) l.length (l.map encB) := by rw [HV0.out]; exact hv
  refine wpIn_rangeFunc_ownG rfl h1 (gf := 286) (lb := #[.pointer (some ⟨w.heap.size + 1, 0, none⟩)]) rfl trivial (enters_of Tryz.func286 (by kernel_rfl) rfl)
    (bytesOf_stops (n - 1) (by omega) (w.heap.size + 1) N m hm _ (by simp) bN.cell) belowK_t (belowK_b (by simp; omega)) (Below.refl _ _) (fun _ => rfl)
    (fun pre W => (∃ v, Boxed W w.heap.size 55 v ∧ W.ownsRow N 5 1 v (l ++ pre).length ((l ++ pre).map encB) ∧ SameOrNew w v0 v) ∧ w.grownBy W v0.ownBlock)
    (fun _ _ _ => False)
    (OwnFrom.and (Own.from (holdsRow_own N w.heap.size 55 5 1 (fun pre => (l ++ pre).length) (fun pre => (l ++ pre).map encB) (fun _ v => SameOrNew w v0 v)) _) (ownFrom_grown (by simp; omega)))
    (fun _ _ _ _ _ hs _ _ => hs)
    ⟨⟨_, bO.alloc _, by simpa using (hv'.alloc _).alloc _, .inl (by rw [HV0.out])⟩, g0⟩
    (fun x => { tmps := #[.slice a0 l.length cap0, .int .i64 (m : Int), .pointer (some ⟨w.heap.size, 0, none⟩), undef, .slice none 0 0, encB x, .int .i64 (m : Int), .func (.func 286) #[] #[.pointer (some ⟨w.heap.size + 1, 0, none⟩)], encB x, undef, undef, undef, undef, undef], defers := [] }) ?assign ?body ?done ?stop
  case assign =>
    intro l x W K hK
    unfold encB at hK ⊢
    gi_wp2
    exact hK
  case body =>
    rintro l' pre x W ⟨⟨v, hv, hrow, hsn⟩, hg⟩ hlt
    have hc := hv.cell
    have hlen : (numB m).length ≤ 10 := num_len_le 9 m
    have hp : pre.length ≤ 10 := by omega
    have hll : (l ++ pre).length ≤ 1073741834 := by simp; omega
    have hsz : N ≤ W.heap.size := Nat.le_trans hN hg.size
    clear hlt hlen
    generalize hlp : l ++ pre = lp at hrow hll
    have HLP : Hid (l ++ pre = lp) := hlp
    clear hlp
    unfold encB
    gi_wp2_with (gi_at_builtin; refine wpListIn_append_own_at _ rfl _ _ 55 rfl N 5 i0 (.int .u8 0) 1 1 Tryz.underlying55 hi hz0 hz1 hz2 rfl (by decide) _ _ _ rfl (hrow.alloc _) ⟨W.heap.size, 0, none⟩ 1 1 [.int .u8 (x.toNat : Int)] rfl rfl (cell_one_new _ _ _) (by simp [Value.oneCell']) (by unfold maxLen; omega) (by omega) (by simp; omega) ?_; intro v' w1 hown' hgrow _ hnew; obtain ⟨g', cap', rfl⟩ := ownsRow_succ hown'; obtain ⟨hv1, hv2, hr2, hk2, hb2⟩ := hv.appended (by decide) hrow hsz hN hown' hgrow; have hc1 := hv1.cell; have hf1 := hv1.frozen)
    refine ⟨hk2.from _, hb2, ⟨_, hv2, ?_, ?_⟩, ?_⟩
    · have := HLP.out
      rw [← List.append_assoc, this, List.map_append, List.length_append]
      exact hr2
    · exact hsn.step (W := W.alloc (.cells #[.int .u8 (x.toNat : Int)] 5)) (by have := hg.size; simp; omega) hnew
    · exact grown_trans (grown_trans (grown_trans hg (World.grownBy_alloc _ _ none) (by simp)) hgrow hsn.row) (grownBy_setCell' _ _ _) (fun k e => .inr (by cases e; exact Nat.le_refl _))
  case done =>
    rintro D ys W hD rfl ⟨⟨v, hv, hrow, hsn⟩, hg⟩ hK
    have hc := hv.cell
    gi_wp2
    refine ⟨by simp, .inl ⟨_, _, rfl, run_takeDeferred hK, ?_⟩⟩
    exact ⟨_, results_tmp rfl _ _ _, v, rfl, ownsRow_putObj hrow _ hK rfl, by rw [HV0.out]; exact grown_trans hg (grownBy_putObj' _ _ _) (fun k e => .inr (by cases e; simp at hD; omega)), by rw [HV0.out]; exact hsn⟩
  case stop =>
    rintro D c pre W _ _ h _
    exact h.elim

theorem appendInt_any (N : Nat) (v : Value) (l : List UInt8) (m : Nat) (hm : m ≤ 4611686018427387904) (w : World) (hN : N ≤ w.heap.size) (hl : l.length ≤ 1073741824) (hv : Ow N w v l) :
    Calls Tryz.prog 263 #[v, .int .i64 (m : Int)] w fun e w' => ∃ v', e = .returned v' ∧ Ow N w' v' (l ++ numB m) ∧ w.grownBy w' v.ownBlock ∧ SameOrNew w v v' :=
  callsIn_wide.1 (appendInt_in 3 (by decide) N v l m hm w hN hl hv)

end Go.Proofs.YtnahghldlkjleaaGreatDoor.Cd
namespace Go.Proofs.YtnahghldlkjleaaGreatDoor.Cd
open Go.RowKit Go.Shelf
attribute [local go_sem] Oper.semAt_some

theorem ahead_stop (l : List UInt8) (k : Nat) (hk : k < 9) (h : k < l.length) (h3 : ∀ j, j < k → 128 ≤ (byteAt l j).toNat) (h4 : (byteAt l k).toNat < 128) : ahead 9 l = l.take k ++ [byteAt l k] := by
  have := (ahead_end l 0 k hk (by omega) (fun j hj => by simpa using h3 j hj) (by simpa using h4)).1
  simp only [List.drop_zero] at this
  rw [this, take_snocB _ _ h]

theorem ahead_all (l : List UInt8) (k : Nat) (hk : k = min l.length 9) (h3 : ∀ j, j < k → 128 ≤ (byteAt l j).toNat) : ahead 9 l = l.take k := by
  rw [ahead_go k 9 l (by omega) (by omega) h3]
  by_cases h9 : k = 9
  · subst h9; simp [ahead]
  · have : l.drop k = [] := List.drop_eq_nil_of_le (by omega)
    rw [this]
    cases 9 - k <;> simp [ahead]

theorem take_prefix_ahead (l : List UInt8) (k : Nat) (hk : k < 9) (h : k < l.length) (h3 : ∀ j, j < k → 128 ≤ (byteAt l j).toNat) : l.take k ++ [byteAt l k] <+: ahead 9 l := by
  by_cases h4 : (byteAt l k).toNat < 128
  · rw [ahead_stop l k hk h h3 h4]; exact List.prefix_refl _
  · rw [ahead_go (k + 1) 9 l (by omega) (by omega) (fun j hj => by
      by_cases e : j = k
      · subst e; omega
      · exact h3 j (by omega)), take_snocB _ _ h]
    exact List.prefix_append _ _

theorem ahead_len_gt (l : List UInt8) (k : Nat) (hk : k < 9) (h : k < l.length) (h3 : ∀ j, j < k → 128 ≤ (byteAt l j).toNat) : k < (ahead 9 l).length := by
  have := (take_prefix_ahead l k hk h h3).length_le
  simp at this; omega

/-- Bytes from an address on. -/
def CellsAt (W : World) (b off : Nat) (l : List UInt8) : Prop := ∀ i, i < l.length → W.cell? ⟨b, off + i, none⟩ = some (.int .u8 ((byteAt l i).toNat : Int))

theorem CellsAt.below {n₀ : Nat} {W W' : World} {b off : Nat} {l : List UInt8} (h : CellsAt W b off l) (hb : b < n₀) (hB : Below n₀ W W') : CellsAt W' b off l :=
  fun i hi => (hB.cell (p := ⟨b, off + i, none⟩) hb).trans (h i hi)

set_option maxRecDepth 100000 in
set_option maxHeartbeats 2000000 in
theorem ahead1_in (n : Nat) (hn : 1 ≤ n) (l' Bn n₀ b off cap : Nat) (l : List UInt8) (hl0 : 0 < l.length) (hlc : l.length ≤ cap) (hcm : cap ≤ maxLen) (hb : b < n₀) (J Jx : List UInt8 → World → Prop)
    (hY : ∀ pre x W, J pre W → pre.length < (ahead 9 l).length → YieldAt Fence.wide (n - 1) Tryz.prog l' #[encB x] W fun e W' =>
      (e = .returned (.bool true) ∧ J (pre ++ [x]) W' ∧ Below n₀ W W') ∨ (e = .returned (.bool false) ∧ Jx (pre ++ [x]) W'))
    (W : World) (hBn : W.cell? ⟨Bn, 0, none⟩ = some (.slice (some ⟨b, off, none⟩) l.length cap)) (hc : CellsAt W b off l) (h0 : J [] W) :
    CallsIn Fence.wide n Tryz.prog 287 #[.func (.yield l') #[] #[], .pointer (some ⟨Bn, 0, none⟩)] W fun e W' => (∃ v, e = .returned v) ∧
      ((∃ ys, ys = ahead 9 l ∧ J ys W') ∨ (∃ pre, pre <+: ahead 9 l ∧ Jx pre W')) := by
  unfold maxLen at hcm
  have HC : Hid (CellsAt W b off l) := hc
  clear hc
  have hsp : l.length ≤ 9 ∨ 9 < l.length := by omega
  refine callsIn_of_wp Tryz.func287 rfl trivial ?_ rfl
  simp only [Tryz.ntmps287, List.size_toArray, List.length_cons, List.length_nil, Nat.reduceAdd, Nat.reduceSub, Array.replicate_succ, Array.replicate_zero, List.push_toArray, List.append_toArray, List.nil_append, List.cons_append]
  rcases hsp with hsp | hsp
  all_goals
    gi_wp2
    gi_loopw [11] (fun p wr => ∃ k : Nat, p = .int .i64 (k : Int) ∧ k ≤ 9 ∧ k ≤ l.length ∧ (∀ j, j < k → 128 ≤ (byteAt l j).toNat) ∧ CellsAt wr b off l ∧ J (l.take k) wr)
      (fun p _ => 9 - (intOf p).toNat)
    case atStart => exact ⟨0, rfl, by omega, by omega, fun j hj => by omega, HC.out, h0⟩
    case round =>
      obtain ⟨k, rfl, hk9, hkl, hj, hcw, hJs⟩ := hrel
      have HJ : Hid (∀ j, j < k → 128 ≤ (byteAt l j).toNat) := hj
      have HCW : Hid (CellsAt wr b off l) := hcw
      clear hj hcw
      by_cases hlt : k < l.length ∧ k < 9
      · obtain ⟨hlt1, hlt2⟩ := hlt
        have hcl := HCW.out k hlt1
        have hlen := ahead_len_gt l k hlt2 hlt1 HJ.out
        obtain ⟨fn, tmps, assign, body, hy, hR⟩ := hY (l.take k) (byteAt l k) wr hJs (by simp; omega)
        have HP : Hid (l.take k ++ [byteAt l k] <+: ahead 9 l) := take_prefix_ahead l k hlt2 hlt1 HJ.out
        have HT : Hid (l.take (k + 1) = l.take k ++ [byteAt l k]) := take_snocB l k hlt1
        have HS : Hid ((byteAt l k).toNat < 128 → ahead 9 l = l.take k ++ [byteAt l k]) := ahead_stop l k hlt2 hlt1 HJ.out
        have HS2 : Hid (¬ (byteAt l k).toNat < 128 → ∀ j, j < k + 1 → 128 ≤ (byteAt l j).toNat) := by
          intro h j hj
          by_cases e : j = k
          · subst e; omega
          · exact HJ.out j (by omega)
        clear hlen
        generalize byteAt l k = x at hcl hy hR HP HT HS HS2
        unfold encB at hy
        by_cases hx : (x.toNat : Int) < 128
        · gi_wp2
          refine hR.mono ?_
          rintro e W3 (⟨rfl, hJ3, hk3⟩ | ⟨rfl, hJx3⟩)
          · clear hy hR
            gi_wp2
            refine bodyPost_ret (results_none rfl _ _ _) rfl ?_
            exact ⟨⟨_, rfl⟩, .inl ⟨_, (HS.out (by omega)).symm, hJ3⟩⟩
          · clear hy hR
            gi_wp2
            refine bodyPost_ret (results_none rfl _ _ _) rfl ?_
            exact ⟨⟨_, rfl⟩, .inr ⟨_, HP.out, hJx3⟩⟩
        · gi_wp2
          refine hR.mono ?_
          rintro e W3 (⟨rfl, hJ3, hk3⟩ | ⟨rfl, hJx3⟩)
          · clear hy hR
            gi_wp2
            go_roundw
            case rel => exact ⟨k + 1, by go_num, by omega, by omega, HS2.out (by omega), HCW.out.below hb hk3, by rw [HT.out]; exact hJ3⟩
            case measure => simp [intOf]; omega
          · clear hy hR
            gi_wp2
            refine bodyPost_ret (results_none rfl _ _ _) rfl ?_
            exact ⟨⟨_, rfl⟩, .inr ⟨_, HP.out, hJx3⟩⟩
      · gi_wp2
        go_end0
        exact ⟨⟨_, rfl⟩, .inl ⟨_, (ahead_all l k (by omega) HJ.out).symm, hJs⟩⟩

set_option maxHeartbeats 1000000 in
theorem bytesAhead_in (n : Nat) (a : Option Addr) (len cap : Nat) (w : World) :
    CallsIn Fence.wide n Tryz.prog 285 #[.slice a len cap] w fun e w' => e = .returned (.func (.func 287) #[] #[.pointer (some ⟨w.heap.size, 0, none⟩)]) ∧ w' = w.alloc (.cells #[.slice a len cap] 55) := by
  refine callsIn_of_wp Tryz.func285 rfl trivial ?_ rfl
  simp only [Tryz.ntmps285, List.size_toArray, List.length_cons, List.length_nil, Nat.reduceAdd, Nat.reduceSub, Array.replicate_succ, Array.replicate_zero, List.push_toArray, List.append_toArray, List.nil_append, List.cons_append]
  gi_wp2
  go_ret
  exact ⟨rfl, rfl⟩

theorem bytesAhead_stops (n : Nat) (hn : 1 ≤ n) (Bn n₀ b off cap : Nat) (l : List UInt8) (hl0 : 0 < l.length) (hlc : l.length ≤ cap) (hcm : cap ≤ maxLen) (hb : b < n₀) (w : World) (hBn : Bn < w.heap.size) (hn₀ : n₀ ≤ w.heap.size)
    (hc : w.cell? ⟨Bn, 0, none⟩ = some (.slice (some ⟨b, off, none⟩) l.length cap)) (hcl : CellsAt w b off l) :
    SeqStopsK Fence.wide n Tryz.prog 287 #[.pointer (some ⟨Bn, 0, none⟩)] (fun x : UInt8 => #[encB x]) (Below n₀) (fun ys => ys = ahead 9 l) (fun pre => pre <+: ahead 9 l) (ahead 9 l).length w := fun l' J Jx W hW _ _ hY h0 =>
  ahead1_in n hn l' Bn n₀ b off cap l hl0 hlc hcm hb J Jx hY W ((hW.cell (p := ⟨Bn, 0, none⟩) hBn).trans hc) (hcl.below hb (hW.mono hn₀)) h0
end Go.Proofs.YtnahghldlkjleaaGreatDoor.Cd
namespace Go.Proofs.YtnahghldlkjleaaGreatDoor.Cd

variable {F : Fence} {n : Nat} {P : Program} {ops : Array Oper} {Q : Exit → Act → World → Prop} {md : Region.Mode}

theorem uponIn_round_of {l : Nat} {o : Oper} {a : Act} {K : Act → World → Prop} (r : Result Next) (h : Oper.uponIn F n P o a K Q r) : Oper.uponIn (F.inRound l) n P o a K Q r := by
  cases r with
  | ok x w' => cases x <;> exact h
  | halt x w' => cases x <;> exact h

theorem wpOp_round {l : Nat} {o : Oper} {a : Act} {w : World} {K : Act → World → Prop} (hro : F.round = none) (hd : ∀ c, o.op ≠ .defer c) (h : o.wpIn F n P a w K Q) : o.wpIn (F.inRound l) n P a w K Q := by
  unfold Oper.wpIn at *
  refine ⟨h.1, ?_⟩
  rw [Oper.semAt_eq _ _ _ hd]
  have h2 := h.2
  rw [hro, Oper.semAt_none] at h2
  exact uponIn_round_of _ h2

theorem wpOpIn_round {l i : Nat} {a : Act} {w : World} {K : Act → World → Prop} (hro : F.round = none) (hd : ∀ (i : Nat) (o : Oper), ops[i]? = some o → ∀ c, o.op ≠ .defer c) (h : wpOpIn F n P ops Q i K a w) : wpOpIn (F.inRound l) n P ops Q i K a w := by
  unfold wpOpIn at *
  split
  · rename_i ho; simp only [ho] at h; exact h
  · rename_i o ho
    simp only [ho] at h
    split
    · rename_i hw; simp only [hw, if_true] at h; exact wpOp_round hro (hd i o ho) h
    · rename_i hw; simp only [hw] at h; exact h

theorem wpAnyIn_round {l : Nat} (hro : F.round = none) (hd : ∀ (i : Nat) (o : Oper), ops[i]? = some o → ∀ c, o.op ≠ .defer c) : ∀ (fuel : Nat) (listed : Array Bool) (a : Act) (w : World),
    wpAnyIn F n P md ops Q fuel listed a w → wpAnyIn (F.inRound l) n P md ops Q fuel listed a w
  | 0, _, _, _, h => h
  | fuel + 1, _, _, _, h => ⟨h.1, fun i hi => wpOpIn_round hro hd (wpOpIn_mono (fun a w h => wpAnyIn_round hro hd fuel _ a w h) (h.2 i hi))⟩

/-- No operation of the region is deferred: asked of a program. -/
def noDefer (ops : Array Oper) : Bool := ops.all fun o => match o.op with | .defer _ => false | _ => true

theorem noDefer_spec (h : noDefer ops = true) : ∀ (i : Nat) (o : Oper), ops[i]? = some o → ∀ c, o.op ≠ .defer c := by
  intro i o ho c hc
  unfold noDefer at h
  rw [Array.all_eq_true] at h
  obtain ⟨hi, ho'⟩ := Array.getElem?_eq_some_iff.1 ho
  have := h i hi
  rw [ho', hc] at this
  cases this

theorem region_round {id l : Nat} {a : Act} {w : World} (hm : P.follows .mixedOrders = true) (hd : noDefer ops = true)
    (h : wpAnyIn Fence.wide n P .any ops Q ops.size (Array.replicate ops.size false) a w.drew) : (Code.region id ops true).wpIn (Fence.wide.inRound l) n P Q a w :=
  wpIn_region_any hm (wpAnyIn_round rfl (noDefer_spec hd) _ _ _ _ h)

end Go.Proofs.YtnahghldlkjleaaGreatDoor.Cd
namespace Go.Proofs.YtnahghldlkjleaaGreatDoor.Cd
open Go.RowKit Go.Shelf
attribute [local go_sem] Oper.semAt_some

/-- Seven bits, moved up. -/
def sh7 (c k : Nat) : Nat := c * 128 ^ k

theorem sh7_run (x : UInt8) (k : Nat) (hk : k ≤ 8) :
    Op.shift BinOp.shl IntKind.i64 (IntKind.i64.wrap ((x.toNat : Int) % 128)) IntKind.i64 (IntKind.i64.wrap (7 * (k : Int))) = pure (.int .i64 ((sh7 (x.toNat % 128) k : Nat) : Int)) := by
  have e1 : IntKind.i64.wrap ((x.toNat : Int) % 128) = (x.toNat : Int) % 128 := by rw [IntKind.wrap_i64]; omega
  have e2 : IntKind.i64.wrap (7 * (k : Int)) = 7 * (k : Int) := by rw [IntKind.wrap_i64]; omega
  rw [e1, e2, shift_shl_i64 _ _ _ (by omega) (by omega)]
  have h3 : (128 : Nat) ^ k ≤ 128 ^ 8 := Nat.pow_le_pow_right (by decide) hk
  have h4 : (128 : Nat) ^ 8 = 72057594037927936 := by decide
  have h5 : (x.toNat % 128) * 128 ^ k ≤ 127 * 72057594037927936 := Nat.mul_le_mul (by omega) (by omega)
  have e3 : (7 * (k : Int)).toNat = 7 * k := by omega
  have e4 : ((x.toNat : Int) % 128) * 2 ^ (7 * k) = ((sh7 (x.toNat % 128) k : Nat) : Int) := by
    unfold sh7
    have e5 : (128 : Nat) ^ k = 2 ^ (7 * k) := by rw [Nat.pow_mul]
    rw [e5]
    simp
  rw [e3, e4]
  have h6 : sh7 (x.toNat % 128) k ≤ 127 * 72057594037927936 := h5
  congr 2
  rw [IntKind.wrap_i64]; omega

theorem sh7_wrap (x : UInt8) (k : Nat) (hk : k ≤ 8) : IntKind.i64.wrap ((x.toNat : Int) % 128 * 2 ^ (7 * (k : Int)).toNat) = ((sh7 (x.toNat % 128) k : Nat) : Int) := by
  have h := sh7_run x k hk
  have e1 : IntKind.i64.wrap ((x.toNat : Int) % 128) = (x.toNat : Int) % 128 := by rw [IntKind.wrap_i64]; omega
  have e2 : IntKind.i64.wrap (7 * (k : Int)) = 7 * (k : Int) := by rw [IntKind.wrap_i64]; omega
  rw [e1, e2, shift_shl_i64 _ _ _ (by omega) (by omega)] at h
  have := congrArg (fun s => s.run Tryz.prog default) h
  simpa using this

theorem lastB_one (pre : List UInt8) (x : UInt8) : lastB (pre ++ [x]) = x.toNat := lastB_snoc pre x

/-- What one round leaves. -/
theorem int_round {W w : World} {pre : List UInt8} {x : UInt8} (B : Nat) (c0 : Boxed W w.heap.size 3 (.int .i64 (val pre : Int))) (c1 : Boxed W (w.heap.size + 1) 3 (.int .i64 (pre.length : Int))) (c2 : Boxed W (w.heap.size + 1 + 1) 5 (.int .u8 (lastB pre : Int))) (hB : Below w.heap.size w W)
    (W3 : World) (hW3 : W3 = ((((W.setCell ⟨w.heap.size, 0, none⟩ (.int .i64 (val (pre ++ [x]) : Int))).setCell ⟨w.heap.size + 1, 0, none⟩ (.int .i64 ((pre.length : Int) + 1))).setCell ⟨w.heap.size + 1 + 1, 0, none⟩ (.int .u8 (x.toNat : Int)))).drew) :
    KeepsFrom B W W3 ∧ Below w.heap.size W W3 ∧ Boxed W3 w.heap.size 3 (.int .i64 (val (pre ++ [x]) : Int)) ∧ Boxed W3 (w.heap.size + 1) 3 (.int .i64 ((pre ++ [x]).length : Int)) ∧ Boxed W3 (w.heap.size + 1 + 1) 5 (.int .u8 (lastB (pre ++ [x]) : Int)) ∧ Below w.heap.size w W3 := by
  subst hW3
  have hb : Below w.heap.size W ((((W.setCell ⟨w.heap.size, 0, none⟩ (.int .i64 (val (pre ++ [x]) : Int))).setCell ⟨w.heap.size + 1, 0, none⟩ (.int .i64 ((pre.length : Int) + 1))).setCell ⟨w.heap.size + 1 + 1, 0, none⟩ (.int .u8 (x.toNat : Int)))).drew :=
    ((((Below.refl _ W).setCell (p := ⟨w.heap.size, 0, none⟩) (Nat.le_refl _) _).setCell (p := ⟨w.heap.size + 1, 0, none⟩) (by simp) _).setCell (p := ⟨w.heap.size + 1 + 1, 0, none⟩) (by simp; omega) _).drew
  refine ⟨(((((KeepsOthers.setCell _ _ _).trans (KeepsOthers.setCell _ _ _)).trans (KeepsOthers.setCell _ _ _)).trans (KeepsOthers.drew _))).from _, hb, ?_, ?_, ?_, hB.trans hb⟩
  · exact ((c0.set _).other (by omega) _).other (by omega) _
  · have := (((c1.other (B' := w.heap.size) (by omega) (.int .i64 (val (pre ++ [x]) : Int))).set (.int .i64 ((pre.length : Int) + 1))).other (B' := w.heap.size + 1 + 1) (by omega) (.int .u8 (x.toNat : Int)))
    have e : (((pre ++ [x]).length : Nat) : Int) = (pre.length : Int) + 1 := by simp
    rw [e]; exact this
  · rw [lastB_one]
    exact ((c2.other (by omega) _).other (by omega) _).set _

theorem sh7_or (pre : List UInt8) (x : UInt8) (hk : pre.length ≤ 8) : bits .or .i64 (val pre : Int) ((sh7 (x.toNat % 128) pre.length : Nat) : Int) = (val (pre ++ [x]) : Int) := by
  have := lay_above (val pre) (x.toNat % 128) pre.length hk (val_lt pre) (by omega)
  unfold sh7
  rw [this, val_append]; simp [val]

set_option maxRecDepth 100000 in
set_option maxHeartbeats 2000000 in
theorem wInt_in (n : Nat) (hn : 3 ≤ n) (N : Nat) (v : Value) (l : List UInt8) (i : Int) (w : World) (hN : N ≤ w.heap.size) (hv : Sl N w v l) :
    CallsIn Fence.wide n Tryz.prog 278 #[v, .int .i64 i] w fun e w' => e = .returned (tup3 (intAt l i)) ∧ Below w.heap.size w w' := by
  have h1n : 1 ≤ n := by omega
  obtain ⟨a0, cap, rfl, hc, hm, g⟩ := hv
  by_cases h0 : i < 0
  · rw [intAt_off l i (.inl h0)]; unfold tup3
    refine callsIn_of_wp_marks Tryz.func278 rfl trivial ?_ rfl
    simp only [Tryz.ntmps278, List.size_toArray, List.length_cons, List.length_nil, Nat.reduceAdd, Nat.reduceSub, Array.replicate_succ, Array.replicate_zero, List.push_toArray, List.append_toArray, List.nil_append, List.cons_append]
    gi_wp2
    exact ⟨_, results_tmp3 rfl _ _ _, rfl, Below.refl _ _⟩
  · by_cases h1 : (l.length : Int) ≤ i
    · rw [intAt_off l i (.inr h1)]; unfold tup3
      have h0' : decide (i < 0) = false := by simpa using h0
      refine callsIn_of_wp_marks Tryz.func278 rfl trivial ?_ rfl
      simp only [Tryz.ntmps278, List.size_toArray, List.length_cons, List.length_nil, Nat.reduceAdd, Nat.reduceSub, Array.replicate_succ, Array.replicate_zero, List.push_toArray, List.append_toArray, List.nil_append, List.cons_append]
      gi_wp2
      exact ⟨_, results_tmp3 rfl _ _ _, rfl, Below.refl _ _⟩
    · obtain ⟨a, rfl⟩ := Int.eq_ofNat_of_zero_le (Int.not_lt.1 h0)
      have hal : a < l.length := by omega
      obtain ⟨b, off, rfl, hbN, hcell⟩ := Sl.cellAt g (by omega)
      have HC : Hid (CellsAt w b (off + a) (l.drop a)) := by
        intro i hi
        rw [Nat.add_assoc, byteAt_drop]
        exact hcell (a + i) (by simp at hi; omega)
      have hm' := hm
      unfold maxLen at hm
      clear g h1 h0 hcell
      have h0' : decide ((a : Int) < 0) = false := by simp
      have h1' : decide ((l.length : Int) ≤ (a : Int)) = false := by simp; omega
      refine callsIn_of_wp_marks Tryz.func278 rfl trivial ?_ rfl
      simp only [Tryz.ntmps278, List.size_toArray, List.length_cons, List.length_nil, Nat.reduceAdd, Nat.reduceSub, Array.replicate_succ, Array.replicate_zero, List.push_toArray, List.append_toArray, List.nil_append, List.cons_append]
      gi_wp2_with (refine ⟨trivial, ?_⟩; gi_at_call 285; refine (bytesAhead_in (n - 1) _ _ _ _).mono ?_; rintro e w' ⟨rfl, hw⟩; subst w')
      obtain ⟨W0, hW0⟩ : ∃ W0, ((((w.alloc (Obj.cells #[Value.int IntKind.i64 0] 3)).alloc (Obj.cells #[Value.int IntKind.i64 0] 3)).alloc (Obj.cells #[Value.int IntKind.u8 0] 5)).alloc (Obj.cells #[Value.slice (some { block := b, off := off + a }) (l.length - a) (cap - a)] 55)) = W0 := ⟨_, rfl⟩
      rw [hW0]
      have hsz : W0.heap.size = w.heap.size + 4 := by rw [← hW0]; simp
      have b0 : Boxed W0 w.heap.size 3 (.int .i64 0) := by rw [← hW0]; exact (((Boxed.new w 3 (.int .i64 0)).alloc _).alloc _).alloc _
      have b1 : Boxed W0 (w.heap.size + 1) 3 (.int .i64 0) := by
        rw [← hW0]; have := Boxed.new (w.alloc (Obj.cells #[Value.int IntKind.i64 0] 3)) 3 (.int .i64 0)
        rw [World.size_alloc] at this; exact (this.alloc _).alloc _
      have b2 : Boxed W0 (w.heap.size + 1 + 1) 5 (.int .u8 0) := by
        rw [← hW0]; have := Boxed.new ((w.alloc (Obj.cells #[Value.int IntKind.i64 0] 3)).alloc (Obj.cells #[Value.int IntKind.i64 0] 3)) 5 (.int .u8 0)
        rw [World.size_alloc, World.size_alloc] at this; exact this.alloc _
      have b3 : Boxed W0 (w.heap.size + 1 + 1 + 1) 55 (.slice (some ⟨b, off + a, none⟩) (l.length - a) (cap - a)) := by
        rw [← hW0]; have := Boxed.new (((w.alloc (Obj.cells #[Value.int IntKind.i64 0] 3)).alloc (Obj.cells #[Value.int IntKind.i64 0] 3)).alloc (Obj.cells #[Value.int IntKind.u8 0] 5)) 55 (.slice (some ⟨b, off + a, none⟩) (l.length - a) (cap - a))
        rw [World.size_alloc, World.size_alloc, World.size_alloc] at this; exact this
      have hB0 : Below w.heap.size w W0 := by
        rw [← hW0]; exact ((((Below.refl _ w).alloc (Nat.le_refl _) _).alloc (by simp) _).alloc (by simp; omega) _).alloc (by simp; omega) _
      clear hW0
      have hpl : (l.drop a).length = l.length - a := by simp
      have b3c := b3.cell
      rw [← hpl] at b3c
      refine wpIn_rangeFunc_ownG rfl h1n (gf := 287) (lb := #[.pointer (some ⟨w.heap.size + 1 + 1 + 1, 0, none⟩)]) rfl trivial (enters_of Tryz.func287 (by kernel_rfl) rfl)
        (bytesAhead_stops (n - 1) (by omega) (w.heap.size + 1 + 1 + 1) w.heap.size b (off + a) (cap - a) (l.drop a) (by omega) (by omega) (by omega) (by omega) W0 (by omega) (by omega) b3c (HC.out.below (n₀ := w.heap.size) (by omega) hB0)) belowK_t (belowK_b (by omega)) (Below.refl _ _) (fun _ => rfl)
        (fun pre W => Boxed W w.heap.size 3 (.int .i64 (val pre : Int)) ∧ Boxed W (w.heap.size + 1) 3 (.int .i64 (pre.length : Int)) ∧ Boxed W (w.heap.size + 1 + 1) 5 (.int .u8 (lastB pre : Int)) ∧ Below w.heap.size w W)
        (fun _ _ _ => False)
        (OwnFrom.and (Own.from (boxed_own _ _ _) _) (OwnFrom.and (Own.from (boxed_own _ _ _) _) (OwnFrom.and (Own.from (boxed_own _ _ _) _) (ownFrom_below (Nat.le_refl _) (by omega)))))
        (fun _ _ _ _ _ hs _ _ => hs)
        ⟨b0, b1, b2, hB0⟩
        (fun x => { tmps := #[.slice (some ⟨b, off, none⟩) l.length cap, .int .i64 (a : Int), undef, undef, .int .i64 0, .int .i64 0, .int .i64 0, .pointer (some ⟨w.heap.size, 0, none⟩), .pointer (some ⟨w.heap.size + 1, 0, none⟩), .pointer (some ⟨w.heap.size + 1 + 1, 0, none⟩), encB x, .int .i64 (a : Int), .bool false, .bool false, .int .i64 (a : Int), .slice (some ⟨b, off, none⟩) l.length cap, .int .i64 (l.length : Int), .bool false, .bool false, .slice (some ⟨b, off, none⟩) l.length cap, .int .i64 (a : Int), .slice (some ⟨b, off + a, none⟩) (l.length - a) (cap - a), .func (.func 287) #[] #[.pointer (some ⟨w.heap.size + 1 + 1 + 1, 0, none⟩)], encB x, undef, undef, undef, undef, undef, undef, undef, undef, undef, undef, undef, undef, undef, undef, undef, undef, undef, undef, undef, undef, undef, undef, undef, undef, undef, undef, undef, undef, undef, undef, undef, undef], defers := [] }) ?assign ?body ?done ?stop
      case assign =>
        intro l x W K hK
        unfold encB at hK ⊢
        gi_wp2
        exact hK
      case body =>
        rintro l' pre x W ⟨c0, c1, c2, hB⟩ hlt
        have hlt9 : pre.length ≤ 8 := by have := ahead_len_le 9 (l.drop a); omega
        have d0 := c0.cell
        have d1 := c1.cell
        have d2 := c2.cell
        have f0 := c0.frozen
        have f1 := c1.frozen
        have f2 := c2.frozen
        clear hlt
        have hcl := clear128 x
        have hsh := sh7_run x pre.length hlt9
        have hor := sh7_or pre x hlt9
        unfold encB
        gi_wp2
        have e1 : IntKind.i64.wrap ((x.toNat : Int) % 128) = (x.toNat : Int) % 128 := by rw [IntKind.wrap_i64]; omega
        have e2 : IntKind.i64.wrap (7 * (pre.length : Int)) = 7 * (pre.length : Int) := by rw [IntKind.wrap_i64]; omega
        have e3 := sh7_wrap x pre.length hlt9
        have hcl' : bits BinOp.andNot IntKind.u8 (x.toNat : Int) 128 = (x.toNat : Int) % 128 := by rw [hcl]; omega
        have HFIN : Hid _ := int_round (x := x) W0.heap.size c0 c1 c2 hB
        refine region_round (by kernel_rfl) (by kernel_rfl) ?_
        refine wpAnyIn_take (i := 1) (v := .int .u8 (x.toNat : Int)) rfl rfl (by kernel_rfl) (by kernel_rfl) (by kernel_rfl) (fun _ _ _ h => h) ⟨.inl ⟨rfl, fun w => by simp [execOp, go_sem]⟩, fun w => rfl⟩ ?_
        refine wpAnyIn_take (i := 2) (v := .int .u8 ((x.toNat : Int) % 128)) rfl rfl (by kernel_rfl) (by kernel_rfl) (by kernel_rfl) (fun _ _ _ h => h) ⟨.inl ⟨rfl, fun w => by simp [execOp, go_sem, hcl']⟩, fun w => rfl⟩ ?_
        refine wpAnyIn_take (i := 3) (v := .int .i64 ((x.toNat : Int) % 128)) rfl rfl (by kernel_rfl) (by kernel_rfl) (by kernel_rfl) (fun _ _ _ h => h) ⟨.inl ⟨rfl, fun w => by simp [execOp, go_sem, e1]⟩, fun w => rfl⟩ ?_
        refine wpAnyIn_ready (rs := [0, 4]) (by kernel_rfl) (by simp) (AllReadyIn.cons rfl (fun K hK => ?A) (AllReadyIn.cons rfl (fun K hK => ?B) AllReadyIn.nil))
        case A =>
          simp [go_sem, execOp, d0]
          refine hK _ _ ?_
          clear hK K
          refine wpAnyIn_ready (rs := [4]) (by kernel_rfl) (by simp) (AllReadyIn.cons rfl (fun K hK => ?A2) AllReadyIn.nil)
          case A2 =>
            simp [go_sem, execOp, d1]
            refine hK _ _ ?_
            clear hK K
            refine wpAnyIn_take (i := 5) (v := .int .i64 (7 * (pre.length : Int))) rfl rfl (by kernel_rfl) (by kernel_rfl) (by kernel_rfl) (fun _ _ _ h => h) ⟨.inl ⟨rfl, fun w => by simp [execOp, go_sem, e2]⟩, fun w => rfl⟩ ?_
            refine wpAnyIn_take (i := 6) (v := .int .i64 ((sh7 (x.toNat % 128) pre.length : Nat) : Int)) rfl rfl (by kernel_rfl) (by kernel_rfl) (by kernel_rfl) (fun _ _ _ h => h) ⟨.inl ⟨rfl, fun w => by simp [execOp, go_sem, e3]⟩, fun w => rfl⟩ ?_
            refine wpAnyIn_take (i := 7) (v := .int .i64 (val (pre ++ [x]) : Int)) rfl rfl (by kernel_rfl) (by kernel_rfl) (by kernel_rfl) (fun _ _ _ h => h) ⟨.inl ⟨rfl, fun w => by simp [execOp, go_sem, hor]⟩, fun w => rfl⟩ ?_
            refine wpAnyIn_ready (rs := [8]) (by kernel_rfl) (by simp) (AllReadyIn.cons rfl (fun K hK => ?Z) AllReadyIn.nil)
            case Z =>
              simp [go_sem, execOp, d0, f0]
              refine hK _ _ ?_
              clear hK K
              refine wpAnyIn_done (by kernel_rfl) ?_ _
              have c1' : Boxed (W.setCell ⟨w.heap.size, 0, none⟩ (.int .i64 (val (pre ++ [x]) : Int))).drew (w.heap.size + 1) 3 (.int .i64 (pre.length : Int)) := c1.other (by omega) _
              have c2' : Boxed (W.setCell ⟨w.heap.size, 0, none⟩ (.int .i64 (val (pre ++ [x]) : Int))).drew (w.heap.size + 1 + 1) 5 (.int .u8 (lastB pre : Int)) := c2.other (by omega) _
              have d1' := c1'.cell
              have d2' := c2'.cell
              have f1' := c1'.frozen
              have f2' := c2'.frozen
              clear hsh hor hcl hcl' e1 e2 e3
              gi_wp2
              exact HFIN.out _ (by simp)
        case B =>
          simp [go_sem, execOp, d1]
          refine hK _ _ ?_
          clear hK K
          refine wpAnyIn_take (i := 5) (v := .int .i64 (7 * (pre.length : Int))) rfl rfl (by kernel_rfl) (by kernel_rfl) (by kernel_rfl) (fun _ _ _ h => h) ⟨.inl ⟨rfl, fun w => by simp [execOp, go_sem, e2]⟩, fun w => rfl⟩ ?_
          refine wpAnyIn_take (i := 6) (v := .int .i64 ((sh7 (x.toNat % 128) pre.length : Nat) : Int)) rfl rfl (by kernel_rfl) (by kernel_rfl) (by kernel_rfl) (fun _ _ _ h => h) ⟨.inl ⟨rfl, fun w => by simp [execOp, go_sem, e3]⟩, fun w => rfl⟩ ?_
          refine wpAnyIn_ready (rs := [0]) (by kernel_rfl) (by simp) (AllReadyIn.cons rfl (fun K hK => ?B2) AllReadyIn.nil)
          case B2 =>
            simp [go_sem, execOp, d0]
            refine hK _ _ ?_
            clear hK K
            refine wpAnyIn_take (i := 7) (v := .int .i64 (val (pre ++ [x]) : Int)) rfl rfl (by kernel_rfl) (by kernel_rfl) (by kernel_rfl) (fun _ _ _ h => h) ⟨.inl ⟨rfl, fun w => by simp [execOp, go_sem, hor]⟩, fun w => rfl⟩ ?_
            refine wpAnyIn_ready (rs := [8]) (by kernel_rfl) (by simp) (AllReadyIn.cons rfl (fun K hK => ?Z) AllReadyIn.nil)
            case Z =>
              simp [go_sem, execOp, d0, f0]
              refine hK _ _ ?_
              clear hK K
              refine wpAnyIn_done (by kernel_rfl) ?_ _
              have c1' : Boxed (W.setCell ⟨w.heap.size, 0, none⟩ (.int .i64 (val (pre ++ [x]) : Int))).drew (w.heap.size + 1) 3 (.int .i64 (pre.length : Int)) := c1.other (by omega) _
              have c2' : Boxed (W.setCell ⟨w.heap.size, 0, none⟩ (.int .i64 (val (pre ++ [x]) : Int))).drew (w.heap.size + 1 + 1) 5 (.int .u8 (lastB pre : Int)) := c2.other (by omega) _
              have d1' := c1'.cell
              have d2' := c2'.cell
              have f1' := c1'.frozen
              have f2' := c2'.frozen
              clear hsh hor hcl hcl' e1 e2 e3
              gi_wp2
              exact HFIN.out _ (by simp)
      case done =>
        rintro D ys W hD hys ⟨c0, c1, c2, hB⟩ hK
        have HV : Hid (intAt l (a : Int) = verdict ys) := by
          show intAt l (a : Int) = verdict ys
          unfold intAt
          rw [if_neg (by omega), hys]
          simp only [Int.toNat_natCast]
        have hvb : val ys < 9223372036854775808 := by
          have h1 := val_lt ys
          have h2 : ys.length ≤ 9 := by rw [hys]; exact ahead_len_le 9 _
          have h3 : 128 ^ ys.length ≤ 128 ^ 9 := Nat.pow_le_pow_right (by decide) h2
          have h4 : (128 : Nat) ^ 9 = 9223372036854775808 := by decide
          omega
        have hlb : lastB ys < 256 := by unfold lastB; exact UInt8.toNat_lt _
        have hln : ys.length ≤ 9 := by rw [hys]; exact ahead_len_le 9 _
        have HB' : Hid (Below w.heap.size w (W.putObj D (.deferred none))) := hB.trans (belowK_b (w := w) (Nat.le_refl _) W D _ _ (by omega) hK rfl rfl)
        have HBd : Hid (Below w.heap.size w (W.drew.putObj D (.deferred none))) := hB.drew.trans (belowK_b (w := w) (Nat.le_refl _) W.drew D _ _ (by omega) hK rfl rfl)
        clear hys
        have d0 := c0.cell
        have d1 := c1.cell
        have d2 := c2.cell
        unfold verdict at HV
        generalize lastB ys = la at *
        generalize val ys = vv at *
        generalize ys.length = sz at *
        by_cases k1 : 128 ≤ la
        · by_cases k2 : sz < 9
          · rw [if_pos ⟨k1, k2⟩] at HV
            gi_wp2
            refine ⟨by simp, .inl ⟨_, _, rfl, run_takeDeferred hK, ?_⟩⟩
            exact ⟨_, results_tmp3 rfl _ _ _, by rw [HV.out]; rfl, HB'.out⟩
          · rw [if_neg (by omega), if_pos k1] at HV
            have k2' : decide ((sz : Int) < 9) = false := by simp; omega
            gi_wp2
            refine ⟨by simp, .inl ⟨_, _, rfl, run_takeDeferred hK, ?_⟩⟩
            exact ⟨_, results_tmp3 rfl _ _ _, by rw [HV.out]; rfl, HB'.out⟩
        · rw [if_neg (by omega), if_neg k1] at HV
          have k1' : decide ((128 : Int) ≤ (la : Int)) = false := by simp; omega
          by_cases k3 : la = 0 ∧ 1 < sz
          · rw [if_pos k3] at HV
            obtain ⟨k3, k4⟩ := k3
            have k3' : ((la : Int) == 0) = true := by simp [k3]
            gi_wp2
            refine ⟨by simp, .inl ⟨_, _, rfl, run_takeDeferred hK, ?_⟩⟩
            exact ⟨_, results_tmp3 rfl _ _ _, by rw [HV.out]; rfl, HB'.out⟩
          · rw [if_neg k3] at HV
            have k5 : ((la : Int) == 0) = false ∨ (((la : Int) == 0) = true ∧ decide ((1 : Int) < (sz : Int)) = false) := by
              by_cases h : la = 0
              · exact .inr ⟨by simp [h], by simp; omega⟩
              · exact .inl (by rw [beq_eq_false_iff_ne]; omega)
            clear k3
            by_cases k6 : 4611686018427387904 < vv
            · rw [if_pos k6] at HV
              rcases k5 with k5 | ⟨k5, k5'⟩
              all_goals
                gi_wp2
                refine ⟨by simp, .inl ⟨_, _, rfl, run_takeDeferred hK, ?_⟩⟩
                exact ⟨_, results_tmp3 rfl _ _ _, by rw [HV.out]; rfl, HB'.out⟩
            · rw [if_neg k6] at HV
              rcases k5 with k5 | ⟨k5, k5'⟩
              all_goals
                gi_wp2
                gi_region
                all_goals gi_wp2
                all_goals
                  refine ⟨by simp, .inl ⟨_, _, rfl, run_takeDeferred (w := W.drew) hK, ?_⟩⟩
                  exact ⟨_, results_tmp3 rfl _ _ _, by rw [HV.out]; rfl, HBd.out⟩
      case stop =>
        rintro D c pre W _ _ h _
        exact h.elim

theorem wInt_any (N : Nat) (v : Value) (l : List UInt8) (i : Int) (w : World) (hN : N ≤ w.heap.size) (hv : Sl N w v l) :
    Calls Tryz.prog 278 #[v, .int .i64 i] w fun e w' => e = .returned (tup3 (intAt l i)) ∧ Below w.heap.size w w' :=
  callsIn_wide.1 (wInt_in 3 (by decide) N v l i w hN hv)
end Go.Proofs.YtnahghldlkjleaaGreatDoor.Cd
