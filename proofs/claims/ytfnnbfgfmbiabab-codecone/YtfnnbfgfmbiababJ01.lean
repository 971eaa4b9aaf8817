/-
  Num; Round; Bits; Leaf; Ref; RefInt.
-/
import Derived.Below
import Derived.OrdersIn
import Derived.RangeFuncCalls
import Derived.WalkKit
import Derived.OwnWalkIn
import Derived.Laws.Bits64b
import Derived.Test.YtfnnbfgfmbiababProg
import Derived.WalkSpells
import Derived.WalkLawsBesides
import Derived.BigQuiet
import Derived.Deep.QuietTactic
/-
  The plain mathematics of the wire form: the bytes of a number, the bytes that a number may have, the number that bytes tell. No program is named here.
-/
namespace Go.Proofs.Ytfnnbfgfmbiabab

/-- The bytes of a number, the lowest seven bits first; f: how many more bytes there may be. -/
def num : Nat → Nat → List UInt8
  | 0, n => [UInt8.ofNat n]
  | f + 1, n => if n < 128 then [UInt8.ofNat n] else UInt8.ofNat (n % 128 + 128) :: num f (n / 128)

/-- The number's bytes, as the document has them. -/
def numB (n : Nat) : List UInt8 := num 9 n

/-- The bytes ahead, up to the one that ends a number, f at most. -/
def ahead : Nat → List UInt8 → List UInt8
  | 0, _ => []
  | _ + 1, [] => []
  | f + 1, x :: l => if x.toNat < 128 then [x] else x :: ahead f l

/-- What seven bits each tell, the lowest first. -/
def val : List UInt8 → Nat
  | [] => 0
  | x :: l => x.toNat % 128 + 128 * val l

def lastB (p : List UInt8) : Nat := (p.getLastD 0).toNat

/-- The answer to bytes of which p are those that a number may have: the number, its bytes, the error. -/
def verdict (p : List UInt8) : Nat × Nat × Nat :=
  if 128 ≤ lastB p ∧ p.length < 9 then (0, 0, 2)
  else if 128 ≤ lastB p then (0, 0, 4)
  else if lastB p = 0 ∧ 1 < p.length then (0, 0, 4)
  else if 4611686018427387904 < val p then (0, 0, 1)
  else (val p, p.length, 0)

/-- The number at a place, as the document has it. -/
def intAt (b : List UInt8) (at' : Int) : Nat × Nat × Nat :=
  if at' < 0 ∨ (b.length : Int) ≤ at' then (0, 0, 2) else verdict (ahead 9 (b.drop at'.toNat))

theorem num_lt {f n : Nat} (h : n < 128) : num f n = [UInt8.ofNat n] := by
  cases f <;> simp [num, h]

theorem num_ge {f n : Nat} (h : 128 ≤ n) : num (f + 1) n = UInt8.ofNat (n % 128 + 128) :: num f (n / 128) := by
  simp [num, Nat.not_lt.2 h]

theorem num_ne (f n : Nat) : num f n ≠ [] := by
  cases f with
  | zero => simp [num]
  | succ f => simp only [num]; split <;> simp

theorem num_len_pos (f n : Nat) : 0 < (num f n).length := List.length_pos_iff.2 (num_ne f n)

theorem num_len_le : ∀ (f n : Nat), (num f n).length ≤ f + 1
  | 0, n => by simp [num]
  | f + 1, n => by
    simp only [num]; split
    · simp
    · have := num_len_le f (n / 128); simp; omega

theorem ahead_len_le : ∀ (f : Nat) (l : List UInt8), (ahead f l).length ≤ f
  | 0, l => by simp [ahead]
  | f + 1, [] => by simp [ahead]
  | f + 1, x :: l => by
    simp only [ahead]; split
    · simp
    · have := ahead_len_le f l; simp; omega

theorem ahead_len_le' : ∀ (f : Nat) (l : List UInt8), (ahead f l).length ≤ l.length
  | 0, l => by simp [ahead]
  | f + 1, [] => by simp [ahead]
  | f + 1, x :: l => by
    simp only [ahead]; split
    · simp
    · have := ahead_len_le' f l; simp; omega

theorem val_lt : ∀ (l : List UInt8), val l < 128 ^ l.length
  | [] => by simp [val]
  | x :: l => by
    have := val_lt l
    have h2 : x.toNat % 128 < 128 := Nat.mod_lt _ (by decide)
    simp only [val, List.length_cons, Nat.pow_succ]
    omega

theorem val_append (l m : List UInt8) : val (l ++ m) = val l + 128 ^ l.length * val m := by
  induction l with
  | nil => simp [val]
  | cons x l ih =>
    simp only [List.cons_append, val, ih, List.length_cons, Nat.pow_succ, Nat.mul_add]
    have : 128 * (128 ^ l.length * val m) = 128 ^ l.length * 128 * val m := by
      rw [Nat.mul_comm (128 ^ l.length) 128, Nat.mul_assoc]
    omega

end Go.Proofs.Ytfnnbfgfmbiabab

/-
  A region that draws its order, within a round of a range over a function: what holds outside a round holds in it, where nothing is deferred.
-/
namespace Go.Proofs.Ytfnnbfgfmbiabab

variable {F : Fence} {n : Nat} {P : Program} {ops : Array Oper} {Q : Exit → Act → World → Prop} {md : Region.Mode}

theorem uponIn_round_of {l : Nat} {o : Oper} {a : Act} {K : Act → World → Prop} (r : Result Next) (h : Oper.uponIn F n P o a K Q r) : Oper.uponIn (F.inRound l) n P o a K Q r := by
  cases r with
  | ok x w' => cases x <;> exact h
  | halt x w' => cases x <;> exact h

theorem wpOp_round {l : Nat} {o : Oper} {a : Act} {w : World} {K : Act → World → Prop} (hro : F.round = none) (hd : ∀ c, o.op ≠ .defer c) (h : o.wpIn F n P a w K Q) : o.wpIn (F.inRound l) n P a w K Q := by
  unfold Oper.wpIn at *
  refine ⟨h.1, ?_⟩
  rw [Oper.semAt_eq _ _ _ hd]
  have h2 := h.2
  rw [hro, Oper.semAt_none] at h2
  exact uponIn_round_of _ h2

theorem wpOpIn_round {l i : Nat} {a : Act} {w : World} {K : Act → World → Prop} (hro : F.round = none) (hd : ∀ (i : Nat) (o : Oper), ops[i]? = some o → ∀ c, o.op ≠ .defer c) (h : wpOpIn F n P ops Q i K a w) : wpOpIn (F.inRound l) n P ops Q i K a w := by
  unfold wpOpIn at *
  split
  · rename_i ho; simp only [ho] at h; exact h
  · rename_i o ho
    simp only [ho] at h
    split
    · rename_i hw; simp only [hw, if_true] at h; exact wpOp_round hro (hd i o ho) h
    · rename_i hw; simp only [hw] at h; exact h

theorem wpAnyIn_round {l : Nat} (hro : F.round = none) (hd : ∀ (i : Nat) (o : Oper), ops[i]? = some o → ∀ c, o.op ≠ .defer c) : ∀ (fuel : Nat) (listed : Array Bool) (a : Act) (w : World),
    wpAnyIn F n P md ops Q fuel listed a w → wpAnyIn (F.inRound l) n P md ops Q fuel listed a w
  | 0, _, _, _, h => h
  | fuel + 1, _, _, _, h => ⟨h.1, fun i hi => wpOpIn_round hro hd (wpOpIn_mono (fun a w h => wpAnyIn_round hro hd fuel _ a w h) (h.2 i hi))⟩

/-- No operation of the region is deferred: asked of a program. -/
def noDefer (ops : Array Oper) : Bool := ops.all fun o => match o.op with | .defer _ => false | _ => true

theorem noDefer_spec (h : noDefer ops = true) : ∀ (i : Nat) (o : Oper), ops[i]? = some o → ∀ c, o.op ≠ .defer c := by
  intro i o ho c hc
  unfold noDefer at h
  rw [Array.all_eq_true] at h
  obtain ⟨hi, ho'⟩ := Array.getElem?_eq_some_iff.1 ho
  have := h i hi
  rw [ho', hc] at this
  cases this

theorem region_round {id l : Nat} {a : Act} {w : World} (hm : P.follows .mixedOrders = true) (hd : noDefer ops = true)
    (h : wpAnyIn Fence.wide n P .any ops Q ops.size (Array.replicate ops.size false) a w.drew) : (Code.region id ops true).wpIn (Fence.wide.inRound l) n P Q a w :=
  wpIn_region_any hm (wpAnyIn_round rfl (noDefer_spec hd) _ _ _ _ h)

end Go.Proofs.Ytfnnbfgfmbiabab

/-
  Bits: the byte with 80 (hex) added, the byte without it, seven bits laid above what was there.
-/
namespace Go.Proofs.Ytfnnbfgfmbiabab

theorem or128 (q : Nat) : bits BinOp.or IntKind.u8 ((q : Int) % 256) 128 = (q : Int) % 128 + 128 := by
  have h : ∀ x : Fin 256, bits BinOp.or IntKind.u8 (x.val : Int) 128 = (x.val : Int) % 128 + 128 := by decide +kernel
  have := h ⟨q % 256, by omega⟩
  rw [show ((q : Int) % 256) = ((q % 256 : Nat) : Int) by omega, this]
  simp only
  omega

theorem clear128 (x : UInt8) : bits BinOp.andNot IntKind.u8 (x.toNat : Int) 128 = ((x.toNat % 128 : Nat) : Int) := by
  have h : ∀ x : Fin 256, bits BinOp.andNot IntKind.u8 (x.val : Int) 128 = ((x.val % 128 : Nat) : Int) := by decide +kernel
  exact h ⟨x.toNat, x.toNat_lt⟩

theorem bits_or_i64_nat (a b : Nat) (ha : a < 9223372036854775808) (hb : b < 9223372036854775808) :
    bits .or .i64 (a : Int) (b : Int) = ((a ||| b : Nat) : Int) := by
  have hab : a ||| b < 2 ^ 63 := Nat.or_lt_two_pow (by omega) (by omega)
  have e : (BitVec.ofInt 64 (a : Int) ||| BitVec.ofInt 64 (b : Int)).toNat = a ||| b := by
    rw [BitVec.toNat_or]
    simp only [BitVec.toNat_ofInt]
    rw [show ((a : Int) % ((2 ^ 64 : Nat) : Int)).toNat = a by omega, show ((b : Int) % ((2 ^ 64 : Nat) : Int)).toNat = b by omega]
  show IntKind.i64.wrap ((BitVec.ofInt 64 (a : Int) ||| BitVec.ofInt 64 (b : Int)).toNat : Int) = _
  rw [e, IntKind.wrap_i64]
  omega

/-- 'n | c << (7 * k)', n below 2^(7 k). -/
theorem lay_above (n c k : Nat) (hk : k ≤ 8) (hn : n < 128 ^ k) (hc : c < 128) :
    bits .or .i64 (n : Int) (((c * 128 ^ k : Nat)) : Int) = ((n + 128 ^ k * c : Nat) : Int) := by
  have h3 : (128 : Nat) ^ k ≤ 128 ^ 8 := Nat.pow_le_pow_right (by decide) hk
  have h4 : (128 : Nat) ^ 8 = 72057594037927936 := by decide
  have h5 : c * 128 ^ k ≤ 127 * 72057594037927936 := Nat.mul_le_mul (by omega) (by omega)
  rw [bits_or_i64_nat _ _ (by omega) (by omega)]
  have e : (128 : Nat) ^ k = 2 ^ (7 * k) := by rw [Nat.pow_mul]
  rw [Nat.or_comm, Nat.mul_comm c, e, ← Nat.two_pow_add_eq_or_of_lt (by rw [← e]; exact hn), Nat.add_comm]
end Go.Proofs.Ytfnnbfgfmbiabab

/-
  What the leaves do: Num, isNumber, the document's Size: each returns what the plain mathematics says, and the world stands.
-/
namespace Go.Proofs.Ytfnnbfgfmbiabab
open Go.RowKit

def encB (x : UInt8) : Value := .int .u8 (x.toNat : Int)

/-- Is it a number of the document's? -/
def isNumB (n : Int) : Bool := decide (0 ≤ n ∧ n ≤ 4611686018427387904)

set_option maxHeartbeats 400000 in
theorem num_any (n : Int) (w : World) : Calls Try.prog 13 #[.int .i64 n] w fun e w' => e = .returned (.int .i64 n) ∧ w' = w := by
  go_enter Try.func13, Try.ntmps13
  go_wp2
  go_ret
  exact ⟨rfl, rfl⟩

set_option maxHeartbeats 400000 in
theorem isNumber_any (n : Int) (w : World) : Calls Try.prog 86 #[.int .i64 n] w fun e w' => e = .returned (.bool (isNumB n)) ∧ w' = w := by
  by_cases h0 : 0 ≤ n
  · by_cases h1 : n ≤ 4611686018427387904
    · have e : isNumB n = true := by simp [isNumB, h0, h1]
      rw [e]; clear e
      go_enter Try.func86, Try.ntmps86
      go_wp2
      go_ret
      exact ⟨rfl, rfl⟩
    · have e : isNumB n = false := by simp [isNumB, h1]
      rw [e]; clear e
      go_enter Try.func86, Try.ntmps86
      go_wp2
      go_ret
      exact ⟨rfl, rfl⟩
  · have e : isNumB n = false := by simp [isNumB, h0]
    rw [e]; clear e
    have h0' : decide (0 ≤ n) = false := by simp; omega
    go_enter Try.func86, Try.ntmps86
    go_wp2
    go_ret
    exact ⟨rfl, rfl⟩

/-- The document's Size. -/
def sizeOf' (n : Int) : Nat := if isNumB n then (numB n.toNat).length else 0

set_option maxRecDepth 100000 in
set_option maxHeartbeats 1000000 in
theorem refSize_any (n : Int) (w : World) : Calls Try.prog 102 #[.int .i64 n] w fun e w' => e = .returned (.int .i64 (sizeOf' n)) ∧ w' = w := by
  by_cases h0 : n < 0
  · have e : sizeOf' n = 0 := by have : isNumB n = false := by simp [isNumB]; omega
                                 simp [sizeOf', this]
    rw [e]; clear e
    go_enter Try.func102, Try.ntmps102
    go_wp2
    go_ret
    exact ⟨rfl, rfl⟩
  · by_cases h1 : 4611686018427387904 < n
    · have e : sizeOf' n = 0 := by have : isNumB n = false := by simp [isNumB]; omega
                                   simp [sizeOf', this]
      rw [e]; clear e
      go_enter Try.func102, Try.ntmps102
      go_wp2
      go_ret
      exact ⟨rfl, rfl⟩
    · obtain ⟨m, rfl⟩ := Int.eq_ofNat_of_zero_le (Int.not_lt.1 h0)
      have e : sizeOf' (m : Int) = (numB m).length := by have : isNumB m = true := by simp [isNumB]; omega
                                                         simp [sizeOf', this]
      rw [e]; clear e
      have h0' : decide ((m : Int) < 0) = false := by simp
      go_enter Try.func102, Try.ntmps102
      go_wp2
      go_loop [0, 3] (fun a k => ∃ (f q s : Nat), a = .int .i64 (q : Int) ∧ k = .int .i64 (s : Int) ∧ q < 128 ^ (f + 1) ∧ f ≤ 9 ∧ s ≤ 10 - f ∧ q ≤ 4611686018427387904 ∧ s + (num f q).length = (numB m).length + 1) (fun a _ => (intOf a).toNat)
      case atStart => exact ⟨9, m, 1, rfl, rfl, by have : (128:Nat)^10 = 1180591620717411303424 := by decide
                                                   omega, by omega, by omega, by omega, by simp [numB]; omega⟩
      case round =>
        obtain ⟨f, q, s, rfl, rfl, hq, hf, hs, hq2, hl⟩ := hrel
        have HQ : Hid (q < 128 ^ (f + 1)) := hq
        have HL : Hid (s + (num f q).length = (numB m).length + 1) := hl
        clear hq hl
        by_cases hlt : 128 ≤ q
        · go_wp2
          go_round
          case rel =>
            have hq := HQ.out
            have hl := HL.out
            cases f with
            | zero => simp at hq; omega
            | succ f => 
              rw [num_ge hlt] at hl
              refine ⟨f, q / 128, s + 1, by go_num, by go_num, ?_, by omega, by omega, by omega, by simp at hl; omega⟩
              rw [Nat.pow_succ] at hq; omega
          case measure => simp [intOf]; omega
        · go_wp2
          go_ret
          have hl := HL.out
          rw [num_lt (by omega)] at hl
          simp at hl
          exact ⟨by rw [hl]; rfl, rfl⟩
/-- v is a slice of bytes that reads l, in a block below N. -/
def Sl (N : Nat) (W : World) (v : Value) (l : List UInt8) : Prop :=
  ∃ (a : Option Addr) (cap : Nat), v = .slice a l.length cap ∧ l.length ≤ cap ∧ cap ≤ maxLen ∧
    (l = [] ∨ ∃ b off, a = some ⟨b, off, none⟩ ∧ b < N ∧ ∀ i, i < l.length → W.cell? ⟨b, off + i, none⟩ = some (encB (l[i]?.getD 0)))

theorem encB_inj {x y : UInt8} (h : (x.toNat : Int) = (y.toNat : Int)) : x = y := UInt8.toNat_inj.1 (by omega)

theorem same_yes {l1 l2 : List UInt8} (hl : l1.length = l2.length) (h : ∀ j, j < l1.length → l1[j]?.getD 0 = l2[j]?.getD 0) : l1 = l2 := by
  apply List.ext_getElem hl
  intro i h1 h2
  have := h i h1
  simpa [List.getElem?_eq_getElem h1, List.getElem?_eq_getElem h2] using this

set_option maxRecDepth 100000 in
set_option maxHeartbeats 1000000 in
theorem same_any (N : Nat) (v1 v2 : Value) (l1 l2 : List UInt8) (w : World) (h1 : Sl N w v1 l1) (h2 : Sl N w v2 l2) :
    Calls Try.prog 12 #[v1, v2] w fun e w' => e = .returned (.bool (decide (l1 = l2))) ∧ ∃ n, w' = w.drewN n := by
  obtain ⟨a1, cap1, rfl, hc1, hm1, g1⟩ := h1
  obtain ⟨a2, cap2, rfl, hc2, hm2, g2⟩ := h2
  unfold maxLen at hm1 hm2
  by_cases hlen : l1.length = l2.length
  · have e1 : ((l1.length : Int) != (l2.length : Int)) = false := by simp [hlen]
    by_cases hz : l1 = []
    · subst hz
      obtain rfl : l2 = [] := List.length_eq_zero_iff.1 (by simpa using hlen.symm)
      clear hlen
      go_enter Try.func12, Try.ntmps12
      go_wp2
      go_loop [5] (fun i => i = .int .i64 0) (fun _ => 0)
      case atStart => rfl
      case round =>
        subst hrel
        go_wp2
        go_ret
        exact ⟨rfl, 0, rfl⟩
    · have hp : 0 < l1.length := List.length_pos_iff.2 hz
      obtain ⟨b1, o1, rfl, -, f1⟩ := g1.resolve_left hz
      obtain ⟨b2, o2, rfl, -, f2⟩ := g2.resolve_left (by intro h; rw [h] at hlen; simp at hlen; exact hz hlen)
      have HL : Hid (l1.length = l2.length) := hlen
      have hle : l1.length ≤ l2.length := by omega
      clear hlen
      go_enter Try.func12, Try.ntmps12
      go_wp2
      go_loopw [5] (fun i wr => ∃ k n : Nat, i = .int .i64 k ∧ k ≤ l1.length ∧ wr = w.drewN n ∧ ∀ j, j < k → l1[j]?.getD 0 = l2[j]?.getD 0) (fun i _ => l1.length - (intOf i).toNat)
      case atStart => exact ⟨0, 0, rfl, by omega, rfl, fun j hj => by omega⟩
      case round =>
        obtain ⟨k, n, rfl, hk, rfl, hj⟩ := hrel
        by_cases hlt : k < l1.length
        · have c1 := f1 k hlt
          have c2 := f2 k (by omega)
          have HJ : Hid (∀ j, j < k → l1[j]?.getD 0 = l2[j]?.getD 0) := hj
          clear hj f1 f2
          unfold encB at c1 c2
          generalize hx1 : l1[k]?.getD 0 = x1 at c1
          generalize hx2 : l2[k]?.getD 0 = x2 at c2
          have H1 : Hid (l1[k]?.getD 0 = x1) := hx1
          have H2 : Hid (l2[k]?.getD 0 = x2) := hx2
          clear hx1 hx2
          by_cases he : x1 = x2
          · subst he
            go_wp2
            go_quiet (fail)
            go_wp2
            go_roundw
            case rel => 
              refine ⟨k + 1, _, by go_num, by omega, rfl, fun j hj => ?_⟩
              by_cases e : j = k
              · subst e; rw [H1.out, H2.out]
              · exact HJ.out j (by omega)
            case measure => simp [intOf]; omega
          · have hb : (((x1.toNat : Int)) != (x2.toNat : Int)) = true := by
              rw [bne_iff_ne]; intro h; exact he (encB_inj h)
            have HN : Hid (decide (l1 = l2) = false) := by
              show decide (l1 = l2) = false
              simp only [decide_eq_false_iff_not]; intro h; apply he; rw [← H1.out, ← H2.out, h]
            clear he
            go_wp2
            go_quiet (fail)
            go_wp2
            go_ret
            rw [HN.out]
            exact ⟨rfl, n + nq, by simp⟩
        · have HN : Hid (decide (l1 = l2) = true) := by
            show decide (l1 = l2) = true
            simp only [decide_eq_true_eq]
            exact same_yes HL.out (fun j hj' => hj j (by omega))
          clear hj
          go_wp2
          go_ret
          rw [HN.out]
          exact ⟨rfl, _, rfl⟩
  · have e1 : ((l1.length : Int) != (l2.length : Int)) = true := by simp; omega
    have e2 : decide (l1 = l2) = false := by simp; intro h; exact hlen (by rw [h])
    rw [e2]
    clear hlen e2
    go_enter Try.func12, Try.ntmps12
    go_wp2
    go_ret
    exact ⟨rfl, 0, rfl⟩
end Go.Proofs.Ytfnnbfgfmbiabab

/-
  What the document's own PutInt answers: for every number its bytes in new memory, else none and the error 1.
-/
namespace Go.Proofs.Ytfnnbfgfmbiabab
open Go.RowKit

theorem info5 : (Try.prog.info? 5).map (fun i => (i.zero, i.size, i.bytes)) = some (some (.int .u8 0), 1, 1) := by kernel_rfl

/-- The bytes of a number, none of what is no number. -/
def putB (n : Int) : List UInt8 := if isNumB n then numB n.toNat else []
def putE (n : Int) : Int := if isNumB n then 0 else 1

theorem putB_len (n : Int) : (putB n).length ≤ 10 := by
  unfold putB; split
  · exact num_len_le 9 _
  · simp

/-- v is a slice of bytes of the call's own, from block N on, that reads l. -/
def Ow (N : Nat) (W : World) (v : Value) (l : List UInt8) : Prop := W.ownsRow N 5 1 v l.length (l.map encB)

theorem encB_one (x : UInt8) : (encB x).oneCell' = true := rfl

/-- One byte more, behind an append of the call's own. -/
theorem Ow.snoc {N : Nat} {w' : World} {v' : Value} {l : List UInt8} {x : UInt8} {u : Value} (hu : u = encB x) (h : w'.ownsRow N 5 1 v' (l.length + 1) (l.map encB ++ [u])) : Ow N w' v' (l ++ [x]) := by
  subst hu; unfold Ow; simpa using h

theorem u8_lo (q : Nat) (h : q < 128) : Value.int .u8 (q : Int) = encB (UInt8.ofNat q) := by
  simp [encB]; omega
theorem u8_hi (q : Nat) : Value.int .u8 (((q % 128 + 128 : Nat)) : Int) = encB (UInt8.ofNat (q % 128 + 128)) := by
  simp [encB]; omega

set_option maxRecDepth 100000 in
set_option maxHeartbeats 1000000 in
theorem refPut_any (n : Int) (w : World) : Calls Try.prog 79 #[.int .i64 n] w fun e w' => ∃ v, e = .returned (.tuple #[v, .int .i64 (putE n)]) ∧ Ow w.heap.size w' v (putB n) ∧ Below w.heap.size w w' := by
  obtain ⟨i0, hi, hz0, hz1, hz2⟩ := info_parts info5
  by_cases hN : isNumB n = true
  · have e1 : putE n = 0 := by simp [putE, hN]
    have e2 : putB n = numB n.toNat := by simp [putB, hN]
    rw [e1, e2]
    have hs : sizeOf' n = (numB n.toNat).length := by simp [sizeOf', hN]
    have hpos := num_len_pos 9 n.toNat
    have hrange : 0 ≤ n ∧ n ≤ 4611686018427387904 := by simpa [isNumB] using hN
    clear e1 e2 hN
    obtain ⟨h0, h1⟩ := hrange
    obtain ⟨m, rfl⟩ := Int.eq_ofNat_of_zero_le h0
    have hcall := fun w => refSize_any (m : Int) w
    rw [hs] at hcall
    have ht : (((numB (m : Int).toNat).length : Int) == 0) = false := by rw [beq_eq_false_iff_ne]; unfold numB; omega
    simp only [Int.toNat_natCast] at *
    have HC := hcall
    clear hs hpos h0
    go_enter Try.func79, Try.ntmps79
    go_wp2_with (go_at_call 102; refine (hcall _).mono ?_; rintro e w' ⟨rfl, rfl⟩)
    go_loopw [0, 4] (fun a v wr => ∃ (f q : Nat) (pre : List UInt8), a = .int .i64 (q : Int) ∧ wr.ownsRow w'.heap.size 5 1 v pre.length (pre.map encB) ∧ q < 128 ^ (f + 1) ∧ f ≤ 9 ∧ q ≤ 4611686018427387904 ∧ pre ++ num f q = numB m ∧ pre.length + f = 9 ∧ Below w'.heap.size w' wr) (fun a _ _ => (intOf a).toNat)
    case atStart => exact ⟨9, m, [], rfl, World.ownsRow_nil _ _ _ _, by have : (128:Nat)^10 = 1180591620717411303424 := by decide
                                                                        omega, by omega, by omega, rfl, rfl, Below.refl _ _⟩
    case round =>
      obtain ⟨f, q, pre, rfl, hown, hq, hf, hq2, hl, hpl, hB⟩ := hrel
      have HQ : Hid (q < 128 ^ (f + 1)) := hq
      have HL : Hid (pre ++ num f q = numB m) := hl
      have hpl' : pre.length ≤ 9 := by omega
      have HP : Hid (pre.length + f = 9) := hpl
      have hsz := hB.size
      clear hq hl hpl
      by_cases hlt : 128 ≤ q
      · go_wp2_with (at_builtin; refine wpList_append_own _ rfl _ _ 23 rfl w'.heap.size 5 i0 (.int .u8 0) 1 1 Try.underlying23 hi hz0 hz1 hz2 rfl (by decide) _ _ _ rfl (hown.alloc _) ⟨wr.heap.size, 0, none⟩ 1 1 [.int .u8 ((q : Int) % 128 + 128)] rfl rfl (cell_one_new _ _ _) (by intro u hu; simp at hu; subst hu; rfl) (by unfold maxLen; omega) (by omega) (by simp; omega) ?_; intro v' w1 hown' hgrow _)
        have hB1 : Below w'.heap.size w' w1 := (hB.alloc hsz _).grown hgrow (by simp; omega) (fun k hk => (hown.lt k hk).1)
        have hO := Ow.snoc (x := UInt8.ofNat (q % 128 + 128)) (by rw [← u8_hi]; simp) hown'
        clear hown' hgrow hown hB
        go_wp2
        go_roundw
        case rel =>
          cases f with
          | zero => have := HQ.out; simp at this; omega
          | succ f =>
            refine ⟨f, q / 128, _, by go_num, hO, ?_, by omega, by omega, ?_, ?_, hB1⟩
            · have := HQ.out; rw [Nat.pow_succ] at this; omega
            · have := HL.out; rw [num_ge hlt] at this; simpa using this
            · have := HP.out; simp; omega
        case measure => simp [intOf]; omega
      · go_wp2_with (at_builtin; refine wpList_append_own _ rfl _ _ 23 rfl w'.heap.size 5 i0 (.int .u8 0) 1 1 Try.underlying23 hi hz0 hz1 hz2 rfl (by decide) _ _ _ rfl (hown.alloc _) ⟨wr.heap.size, 0, none⟩ 1 1 [.int .u8 (q : Int)] rfl rfl (cell_one_new _ _ _) (by intro u hu; simp at hu; subst hu; rfl) (by unfold maxLen; omega) (by omega) (by simp; omega) ?_; intro v' w1 hown' hgrow _)
        have hB1 : Below w'.heap.size w' w1 := (hB.alloc hsz _).grown hgrow (by simp; omega) (fun k hk => (hown.lt k hk).1)
        have hO := Ow.snoc (x := UInt8.ofNat q) (by rw [u8_lo q (by omega)]) hown'
        clear hown' hgrow hown hB
        go_wp2
        go_ret2
        refine ⟨_, rfl, ?_, hB1⟩
        have := HL.out
        rw [num_lt (by omega)] at this
        rw [← this]; exact hO
  · have hN' : isNumB n = false := by simpa using hN
    have e1 : putE n = 1 := by simp [putE, hN']
    have e2 : putB n = [] := by simp [putB, hN']
    rw [e1, e2]
    have hs : sizeOf' n = 0 := by simp [sizeOf', hN']
    have hcall := fun w => refSize_any n w
    rw [hs] at hcall
    clear e1 e2 hN hN' hs
    go_enter Try.func79, Try.ntmps79
    go_wp2_with (go_at_call 102; refine (hcall _).mono ?_; rintro e w' ⟨rfl, rfl⟩)
    go_ret2
    exact ⟨_, rfl, World.ownsRow_nil _ _ _ _, Below.refl _ _⟩
end Go.Proofs.Ytfnnbfgfmbiabab

/-
  What the document's own Int answers, at any place of any bytes.
-/
namespace Go.Proofs.Ytfnnbfgfmbiabab
open Go.RowKit

/-- The answer of three numbers, as the program hands it back. -/
def tup3 (r : Nat × Nat × Nat) : Value := .tuple #[.int .i64 (r.1 : Int), .int .i64 (r.2.1 : Int), .int .i64 (r.2.2 : Int)]

def byteAt (l : List UInt8) (i : Nat) : UInt8 := l[i]?.getD 0

theorem ahead_go : ∀ (k f : Nat) (p : List UInt8), k ≤ f → k ≤ p.length → (∀ j, j < k → 128 ≤ (byteAt p j).toNat) → ahead f p = p.take k ++ ahead (f - k) (p.drop k)
  | 0, f, p, _, _, _ => by simp
  | k + 1, 0, p, h, _, _ => by omega
  | k + 1, f + 1, [], _, h, _ => by simp at h
  | k + 1, f + 1, x :: p, h1, h2, h3 => by
    have h0 := h3 0 (by omega)
    simp [byteAt] at h0
    have := ahead_go k f p (by omega) (by simpa using h2) (fun j hj => by have := h3 (j + 1) (by omega); simpa [byteAt] using this)
    simp [ahead, Nat.not_lt.2 h0, this]

theorem byteAt_drop (l : List UInt8) (a j : Nat) : byteAt (l.drop a) j = byteAt l (a + j) := by simp [byteAt]

theorem lastB_snoc (p : List UInt8) (x : UInt8) : lastB (p ++ [x]) = x.toNat := by simp [lastB]

theorem take_snocB (l : List UInt8) (k : Nat) (h : k < l.length) : l.take (k + 1) = l.take k ++ [byteAt l k] := by
  rw [List.take_succ_eq_append_getElem h]; simp [byteAt, h]

theorem drop_consB (l : List UInt8) (k : Nat) (h : k < l.length) : l.drop k = byteAt l k :: l.drop (k + 1) := by
  rw [List.drop_eq_getElem_cons h]; simp [byteAt, h]

/-- Nine bytes, none of which ends a number. -/
theorem verdict_nine (l : List UInt8) (a : Nat) (h : a + 9 ≤ l.length) (h3 : ∀ j, j < 9 → 128 ≤ (byteAt l (a + j)).toNat) : intAt l a = (0, 0, 4) := by
  have e := ahead_go 9 9 (l.drop a) (by omega) (by simp; omega) (fun j hj => by rw [byteAt_drop]; exact h3 j hj)
  simp [ahead] at e
  have hl : lastB (ahead 9 (l.drop a)) = (byteAt l (a + 8)).toNat := by
    rw [e, take_snocB _ 8 (by simp; omega), lastB_snoc, byteAt_drop]
  have h8 := h3 8 (by omega)
  have hlen : (ahead 9 (l.drop a)).length = 9 := by rw [e]; simp; omega
  unfold intAt
  rw [if_neg (by omega)]
  simp only [Int.toNat_natCast]
  unfold verdict
  rw [if_neg (by omega), if_pos (by omega)]

/-- The bytes end within the number. -/
theorem verdict_short (l : List UInt8) (a k : Nat) (hk : k < 9) (h0 : a < l.length) (h : a + k = l.length) (h3 : ∀ j, j < k → 128 ≤ (byteAt l (a + j)).toNat) : intAt l a = (0, 0, 2) := by
  have e := ahead_go k 9 (l.drop a) (by omega) (by simp; omega) (fun j hj => by rw [byteAt_drop]; exact h3 j hj)
  have hd : (l.drop a).drop k = [] := by apply List.drop_eq_nil_of_le; simp; omega
  rw [hd] at e
  obtain ⟨k', rfl⟩ : ∃ k', k = k' + 1 := ⟨k - 1, by omega⟩
  have e2 : ahead 9 (l.drop a) = (l.drop a).take (k' + 1) := by
    rw [e]; cases hf : 9 - (k' + 1) <;> simp [ahead]
  have hl : lastB (ahead 9 (l.drop a)) = (byteAt l (a + k')).toNat := by
    rw [e2, take_snocB _ k' (by simp; omega), lastB_snoc, byteAt_drop]
  have h8 := h3 k' (by omega)
  have hlen : (ahead 9 (l.drop a)).length = k' + 1 := by rw [e2]; simp; omega
  unfold intAt
  rw [if_neg (by omega)]
  simp only [Int.toNat_natCast]
  unfold verdict
  rw [if_pos (by omega)]

/-- The bytes of the number are k and the one that ends it. -/
theorem ahead_end (l : List UInt8) (a k : Nat) (hk : k < 9) (h : a + k < l.length) (h3 : ∀ j, j < k → 128 ≤ (byteAt l (a + j)).toNat) (h4 : (byteAt l (a + k)).toNat < 128) :
    ahead 9 (l.drop a) = (l.drop a).take (k + 1) ∧ lastB (ahead 9 (l.drop a)) = (byteAt l (a + k)).toNat ∧ (ahead 9 (l.drop a)).length = k + 1 := by
  have e := ahead_go k 9 (l.drop a) (by omega) (by simp; omega) (fun j hj => by rw [byteAt_drop]; exact h3 j hj)
  obtain ⟨f, hf⟩ : ∃ f, 9 - k = f + 1 := ⟨8 - k, by omega⟩
  have hd : (l.drop a).drop k = byteAt l (a + k) :: (l.drop a).drop (k + 1) := by
    rw [drop_consB (l.drop a) k (by simp; omega), byteAt_drop]
  rw [hd, hf] at e
  have e2 : ahead 9 (l.drop a) = (l.drop a).take (k + 1) := by
    rw [e, take_snocB _ k (by simp; omega), byteAt_drop]; simp [ahead, h4]
  refine ⟨e2, ?_, ?_⟩
  · rw [e2, take_snocB _ k (by simp; omega), lastB_snoc, byteAt_drop]
  · rw [e2]; simp; omega

theorem verdict_zero (l : List UInt8) (a k : Nat) (hk : k < 9) (h : a + k < l.length) (h3 : ∀ j, j < k → 128 ≤ (byteAt l (a + j)).toNat) (h4 : (byteAt l (a + k)).toNat = 0) (h5 : 0 < k) : intAt l a = (0, 0, 4) := by
  obtain ⟨_, hl, hlen⟩ := ahead_end l a k hk h h3 (by omega)
  unfold intAt
  rw [if_neg (by omega)]
  simp only [Int.toNat_natCast]
  unfold verdict
  rw [if_neg (by omega), if_neg (by omega), if_pos (by omega)]

theorem verdict_num (l : List UInt8) (a k : Nat) (hk : k < 9) (h : a + k < l.length) (h3 : ∀ j, j < k → 128 ≤ (byteAt l (a + j)).toNat) (h4 : (byteAt l (a + k)).toNat < 128) (h5 : (byteAt l (a + k)).toNat = 0 → k = 0) :
    intAt l a = if 4611686018427387904 < val ((l.drop a).take (k + 1)) then (0, 0, 1) else (val ((l.drop a).take (k + 1)), k + 1, 0) := by
  obtain ⟨e, hl, hlen⟩ := ahead_end l a k hk h h3 h4
  unfold intAt
  rw [if_neg (by omega)]
  simp only [Int.toNat_natCast]
  unfold verdict
  rw [if_neg (by omega), if_neg (by omega), if_neg (by omega), hlen, e]

theorem intAt_off (l : List UInt8) (a : Int) (h : a < 0 ∨ (l.length : Int) ≤ a) : intAt l a = (0, 0, 2) := by
  unfold intAt; rw [if_pos h]

theorem val_dropB (l : List UInt8) (k : Nat) (h : k < l.length) : val (l.drop k) = (byteAt l k).toNat % 128 + 128 * val (l.drop (k + 1)) := by
  rw [drop_consB l k h]; rfl

theorem byteAt_take (l : List UInt8) (k j : Nat) (h : j < k) : byteAt (l.take k) j = byteAt l j := by
  simp [byteAt, h]

theorem Sl.cellAt {N : Nat} {w : World} {a : Option Addr} {l : List UInt8} (g : l = [] ∨ ∃ b off, a = some ⟨b, off, none⟩ ∧ b < N ∧ ∀ i, i < l.length → w.cell? ⟨b, off + i, none⟩ = some (encB (l[i]?.getD 0))) (h : 0 < l.length) :
    ∃ b off, a = some ⟨b, off, none⟩ ∧ b < N ∧ ∀ i, i < l.length → w.cell? ⟨b, off + i, none⟩ = some (.int .u8 ((byteAt l i).toNat : Int)) := by
  rcases g with rfl | ⟨b, off, h1, h2, h3⟩
  · simp at h
  · exact ⟨b, off, h1, h2, h3⟩

set_option maxRecDepth 100000 in
set_option maxHeartbeats 2000000 in
theorem refInt_any (N : Nat) (v : Value) (l : List UInt8) (i : Int) (w : World) (hv : Sl N w v l) (hl : l.length ≤ 140737488355328) :
    Calls Try.prog 104 #[v, .int .i64 i] w fun e w' => e = .returned (tup3 (intAt l i)) ∧ w' = w := by
  obtain ⟨a0, cap, rfl, hc, hm, g⟩ := hv
  unfold maxLen at hm
  by_cases h0 : i < 0
  · rw [intAt_off l i (.inl h0)]; unfold tup3
    go_enter Try.func104, Try.ntmps104
    go_wp2
    go_ret3
    exact ⟨rfl, rfl⟩
  · by_cases h1 : (l.length : Int) ≤ i
    · rw [intAt_off l i (.inr h1)]; unfold tup3
      have h0' : decide (i < 0) = false := by simpa using h0
      go_enter Try.func104, Try.ntmps104
      go_wp2
      go_ret3
      exact ⟨rfl, rfl⟩
    · obtain ⟨a, rfl⟩ := Int.eq_ofNat_of_zero_le (Int.not_lt.1 h0)
      have hal : a < l.length := by omega
      obtain ⟨b, off, rfl, -, hcell⟩ := Sl.cellAt g (by omega)
      have HC : Hid (∀ i, i < l.length → w.cell? ⟨b, off + i, none⟩ = some (.int .u8 ((byteAt l i).toNat : Int))) := hcell
      clear g h1 h0 hcell
      have h0' : decide ((a : Int) < 0) = false := by simp
      have h1' : decide ((l.length : Int) ≤ (a : Int)) = false := by simp; omega
      go_enter Try.func104, Try.ntmps104
      go_wp2
      go_loop [7] (fun k => ∃ q : Nat, k = .int .i64 (q : Int) ∧ q ≤ 9 ∧ a + q ≤ l.length ∧ ∀ j, j < q → 128 ≤ (byteAt l (a + j)).toNat) (fun k => 9 - (intOf k).toNat)
      case atStart => exact ⟨0, rfl, by omega, by omega, fun j hj => by omega⟩
      case round =>
        obtain ⟨k, rfl, hk9, hkl, hj⟩ := hrel
        have HJ : Hid (∀ j, j < k → 128 ≤ (byteAt l (a + j)).toNat) := hj
        clear hj
        by_cases hk : k < 9
        · by_cases hlt : a + k < l.length
          · have hcl := HC.out (a + k) hlt
            generalize hx : byteAt l (a + k) = x at hcl
            have HX : Hid (byteAt l (a + k) = x) := hx
            clear hx
            by_cases hx8 : 128 ≤ (x.toNat : Int)
            · go_wp2
              go_round
              case rel =>
                refine ⟨k + 1, by go_num, by omega, by omega, fun j hj => ?_⟩
                by_cases e : j = k
                · subst e; rw [HX.out]; omega
                · exact HJ.out j (by omega)
              case measure => simp [intOf]; omega
            · have hk9' : ((k : Int) == 9) = false := by rw [beq_eq_false_iff_ne]; omega
              by_cases hzz : 0 < k ∧ x.toNat = 0
              · obtain ⟨hk0, hx0⟩ := hzz
                have HV : Hid (intAt l a = (0, 0, 4)) := verdict_zero l a k hk hlt HJ.out (by rw [HX.out]; exact hx0) hk0
                have hx0' : ((x.toNat : Int) == 0) = true := by simp [hx0]
                clear hx0
                go_wp2
                go_ret3
                exact ⟨by rw [HV.out]; rfl, rfl⟩
              · have HV : Hid (intAt l a = if 4611686018427387904 < val ((l.drop a).take (k + 1)) then (0, 0, 1) else (val ((l.drop a).take (k + 1)), k + 1, 0)) :=
                  verdict_num l a k hk hlt HJ.out (by rw [HX.out]; omega) (by rw [HX.out]; intro h; omega)
                have hge' : decide ((l.length : Int) ≤ (a : Int) + (k : Int)) = false := by simp; omega
                have hsp : (0 < k ∧ ((x.toNat : Int) == 0) = false) ∨ decide (0 < k) = false := by
                  by_cases hk0 : 0 < k
                  · exact .inl ⟨hk0, by rw [beq_eq_false_iff_ne]; omega⟩
                  · exact .inr (by simp; omega)
                clear hzz
                generalize hp : (l.drop a).take (k + 1) = p at HV
                have hplen : p.length = k + 1 := by rw [← hp]; simp; omega
                have HPB : Hid (∀ j, j ≤ k → byteAt p j = byteAt l (a + j)) := by
                  intro j hj; rw [← hp, byteAt_take _ _ _ (by omega), byteAt_drop]
                have HPL : Hid (p.length = k + 1) := hplen
                clear hp hplen
                rcases hsp with ⟨hk0, hx0'⟩ | hk0'
                all_goals
                  go_wp2
                  go_loop [8, 9] (fun n i => ∃ c : Nat, c ≤ k + 1 ∧ i = .int .i64 ((c : Int) - 1) ∧ n = .int .i64 (val (p.drop c) : Int)) (fun _ i => (intOf i + 1).toNat)
                  case atStart => exact ⟨k + 1, by omega, by go_num, by rw [List.drop_eq_nil_of_le (by have := HPL.out; omega)]; rfl⟩
                  case round =>
                    obtain ⟨c, hck, hci, rfl⟩ := hrel
                    cases c with
                    | zero =>
                      subst hci
                      have hvb : val (p.drop 0) < 9223372036854775808 := by
                        have h1 := val_lt (p.drop 0)
                        have h2 : (p.drop 0).length ≤ 9 := by have := HPL.out; simp; omega
                        have h3 : 128 ^ (p.drop 0).length ≤ 128 ^ 9 := Nat.pow_le_pow_right (by decide) h2
                        have h4 : (128 : Nat) ^ 9 = 9223372036854775808 := by decide
                        omega
                      generalize hval : val (p.drop 0) = vv at hvb
                      have HVV : Hid (val (p.drop 0) = vv) := hval
                      clear hval
                      by_cases hbig : 4611686018427387904 < vv
                      · go_wp2
                        go_ret3
                        have hvv := HVV.out
                        simp only [List.drop_zero] at hvv
                        exact ⟨by rw [HV.out, hvv, if_pos hbig]; rfl, rfl⟩
                      · go_wp2
                        go_ret3
                        have hvv := HVV.out
                        simp only [List.drop_zero] at hvv
                        refine ⟨?_, rfl⟩
                        rw [HV.out, hvv, if_neg hbig]
                        show Ending.returned (.tuple #[.int .i64 (vv : Int), .int .i64 ((k : Int) + 1), .int .i64 0]) = _
                        simp [tup3]
                    | succ c =>
                      rw [show (((c + 1 : Nat) : Int) - 1) = (c : Int) by omega] at hci
                      subst hci
                      have hvb : val (p.drop (c + 1)) < 72057594037927936 := by
                        have h1 := val_lt (p.drop (c + 1))
                        have h2 : (p.drop (c + 1)).length ≤ 8 := by have := HPL.out; simp; omega
                        have h3 : 128 ^ (p.drop (c + 1)).length ≤ 128 ^ 8 := Nat.pow_le_pow_right (by decide) h2
                        have h4 : (128 : Nat) ^ 8 = 72057594037927936 := by decide
                        omega
                      have HD : Hid (val (p.drop c) = (byteAt l (a + c)).toNat % 128 + 128 * val (p.drop (c + 1))) := by
                        have := val_dropB p c (by have := HPL.out; omega)
                        rw [HPB.out c (by omega)] at this
                        exact this
                      have hcl2 := HC.out (a + c) (by omega)
                      generalize val (p.drop (c + 1)) = vv at hvb HD
                      generalize byteAt l (a + c) = y at hcl2 HD
                      have hy := y.toNat_lt
                      go_wp2
                      go_round
                      case rel => exact ⟨c, by omega, by go_num, by rw [HD.out]; go_num⟩
                      case measure => simp [intOf]
          · have HV : Hid (intAt l a = (0, 0, 2)) := verdict_short l a k hk hal (by omega) HJ.out
            have hk9' : ((k : Int) == 9) = false := by rw [beq_eq_false_iff_ne]; omega
            go_wp2
            go_ret3
            exact ⟨by rw [HV.out]; rfl, rfl⟩
        · obtain rfl : k = 9 := by omega
          have HV : Hid (intAt l a = (0, 0, 4)) := verdict_nine l a hkl HJ.out
          go_wp2
          go_ret3
          exact ⟨by rw [HV.out]; rfl, rfl⟩
end Go.Proofs.Ytfnnbfgfmbiabab

