/-
  The plain mathematics of the frames: the sum, four bytes, a frame, the frame at a place, all frames, joined frames. No program is named here. Bytes in memory: slices that read bytes, bytes that the call owns, appends and copies; whether bytes are the same; what is lent and kept. The sum: frame's shifted, sumOf, Sum and the document's step, Sum. Four bytes of a number, written and read: frame's appendWord, wordOf; the document's four, whole. Frames written: frame's tooLong, appendFrame, Put; the document's Put. Frames read: frame's Get, One; the document's Get, One. What a frame's bytes are read as: there and back.
-/
import Derived.Below
import Derived.Test.YtnahghldlkjleaaGreatDoorProg
import Derived.WalkKit
import Derived.WalkSpells
import Derived.WalkLawsBesides
import Derived.BigQuiet
import Derived.Deep.QuietTactic
import Derived.RangeFuncNested
import Derived.RangeFuncBound
import Derived.RangeFuncCalls
import Derived.RangeFuncLeaves
import Derived.RangeFuncBox
import Derived.Shelf.Abstract
import Derived.Shelf.RegionOpen
import Derived.Laws.AppendOwnNone
import Derived.OwnWalkIn
import Derived.TacticsInMore
import Derived.LoopNIn
import Derived.LoopIn
import Derived.Maps.AppendAt
import Derived.Maps.OwnIn
import Derived.Laws.Bits64b
import Derived.Deep.RegionWith
import Derived.Deep.RegionHeld3
import Derived.Deep.CutRange
import Derived.Deep.DrawnRows
namespace Go.Proofs.YtnahghldlkjleaaGreatDoor.Fr

def poly : BitVec 32 := 0x82f63b78#32

/-- A bit falls out of the sum. -/
def sh (c : BitVec 32) : BitVec 32 := (c >>> 1) ^^^ (if c.getLsbD 0 then poly else 0#32)

def shN : Nat → BitVec 32 → BitVec 32
  | 0, c => c
  | n + 1, c => shN n (sh c)

def crcStep (c : BitVec 32) (x : UInt8) : BitVec 32 := shN 8 (c ^^^ BitVec.ofNat 32 x.toNat)

def crcRun (c : BitVec 32) (l : List UInt8) : BitVec 32 := l.foldl crcStep c

def crcB (l : List UInt8) : BitVec 32 := ~~~ (crcRun (BitVec.allOnes 32) l)

/-- The sum of bytes. -/
def crc (l : List UInt8) : Nat := (crcB l).toNat

theorem crc_lt (l : List UInt8) : crc l < 4294967296 := (crcB l).isLt

theorem sh_inj {c d : BitVec 32} (h : sh c = sh d) : c = d := by
  have key : ∀ x : BitVec 32, (sh x).getLsbD 31 = x.getLsbD 0 := by
    intro x
    unfold sh
    cases hx : x.getLsbD 0 <;> simp [poly]
  have h0 : c.getLsbD 0 = d.getLsbD 0 := by rw [← key c, ← key d, h]
  have h1 : c >>> 1 = d >>> 1 := by
    unfold sh at h
    rw [h0] at h
    have := congrArg (· ^^^ (if d.getLsbD 0 then poly else 0#32)) h
    simpa [BitVec.xor_assoc] using this
  apply BitVec.eq_of_getLsbD_eq
  intro i hi
  cases i with
  | zero => exact h0
  | succ i =>
    have := congrArg (fun x => BitVec.getLsbD x i) h1
    simpa [Nat.add_comm] using this

theorem shN_inj : ∀ (n : Nat) {c d : BitVec 32}, shN n c = shN n d → c = d
  | 0, _, _, h => h
  | n + 1, _, _, h => sh_inj (shN_inj n h)

theorem xor_cancel {a b x : BitVec 32} (h : a ^^^ x = b ^^^ x) : a = b := by
  have := congrArg (· ^^^ x) h
  simpa [BitVec.xor_assoc] using this

theorem crcStep_inj {c d : BitVec 32} {x : UInt8} (h : crcStep c x = crcStep d x) : c = d := xor_cancel (shN_inj 8 h)

theorem crcRun_inj : ∀ (l : List UInt8) {c d : BitVec 32}, crcRun c l = crcRun d l → c = d
  | [], _, _, h => h
  | _ :: l, _, _, h => crcStep_inj (crcRun_inj l h)

theorem crcStep_byte {c : BitVec 32} {x y : UInt8} (h : crcStep c x = crcStep c y) : x = y := by
  have h1 := shN_inj 8 h
  rw [BitVec.xor_comm c, BitVec.xor_comm c] at h1
  have h2 := congrArg BitVec.toNat (xor_cancel h1)
  simp only [BitVec.toNat_ofNat] at h2
  have hx := x.toNat_lt
  have hy := y.toNat_lt
  apply UInt8.toNat_inj.1
  omega

theorem crcRun_append (c : BitVec 32) (l m : List UInt8) : crcRun c (l ++ m) = crcRun (crcRun c l) m := by simp [crcRun]

/-- One byte is another one: so is the sum. -/
theorem crc_spoilt (l m : List UInt8) {x y : UInt8} (h : x ≠ y) : crc (l ++ x :: m) ≠ crc (l ++ y :: m) := by
  intro e
  have e1 := BitVec.eq_of_toNat_eq e
  have e2 : crcRun (BitVec.allOnes 32) (l ++ x :: m) = crcRun (BitVec.allOnes 32) (l ++ y :: m) := by
    have := congrArg (fun b => ~~~ b) e1
    simpa [crcB] using this
  rw [crcRun_append, crcRun_append] at e2
  exact h (crcStep_byte (crcRun_inj m e2))

theorem crc_nine : crc [49, 50, 51, 52, 53, 54, 55, 56, 57] = 3808858755 := by decide +kernel
theorem crc_zeros : crc [0, 0, 0, 0] = 1214729159 := by decide +kernel
theorem crc_none : crc [] = 0 := by decide +kernel

/-- Four bytes of a number, the low one first. -/
def le4 (n : Nat) : List UInt8 := [UInt8.ofNat n, UInt8.ofNat (n / 256), UInt8.ofNat (n / 65536), UInt8.ofNat (n / 16777216)]

def at0 (b : List UInt8) (i : Nat) : Nat := (b[i]?.getD 0).toNat

/-- The number that four bytes say. -/
def word4 (b : List UInt8) : Nat := at0 b 0 + 256 * at0 b 1 + 65536 * at0 b 2 + 16777216 * at0 b 3

theorem le4_len (n : Nat) : (le4 n).length = 4 := rfl

theorem at0_lt (b : List UInt8) (i : Nat) : at0 b i < 256 := UInt8.toNat_lt _

theorem word4_lt (b : List UInt8) : word4 b < 4294967296 := by
  have h0 := at0_lt b 0
  have h1 := at0_lt b 1
  have h2 := at0_lt b 2
  have h3 := at0_lt b 3
  unfold word4; omega

theorem word4_le4 (n : Nat) (h : n < 4294967296) (m : List UInt8) : word4 (le4 n ++ m) = n := by
  simp [word4, le4, at0]; omega

theorem le4_word4 (b : List UInt8) (h : b.length = 4) : le4 (word4 b) = b := by
  match b, h with
  | [x, y, z, t], _ =>
    have hx := x.toNat_lt; have hy := y.toNat_lt; have hz := z.toNat_lt; have ht := t.toNat_lt
    simp only [le4, word4, at0, List.getElem?_cons_zero, List.getElem?_cons_succ, Option.getD_some]
    have e : ∀ (u : UInt8) (k : Nat), k % 256 = u.toNat → UInt8.ofNat k = u := by
      intro u k hk; apply UInt8.toNat_inj.1; simp [hk]
    rw [e x _ (by omega), e y _ (by omega), e z _ (by omega), e t _ (by omega)]

theorem word4_inj {b c : List UInt8} (hb : b.length = 4) (hc : c.length = 4) (h : word4 b = word4 c) : b = c := by
  rw [← le4_word4 b hb, ← le4_word4 c hc, h]

/-- A payload's frame. -/
def frameB (p : List UInt8) : List UInt8 := le4 p.length ++ (le4 (crc (le4 p.length ++ p)) ++ p)

theorem frameB_len (p : List UInt8) : (frameB p).length = 8 + p.length := by simp [frameB, le4_len]; omega

/-- The frame that rest begins with: its payload, how many bytes it has, the error. -/
def getFront (rest : List UInt8) : List UInt8 × Nat × Nat :=
  if rest.length < 4 then ([], 0, 2)
  else if 1048576 < word4 rest then ([], 0, 3)
  else if rest.length < 8 + word4 rest then ([], 0, 2)
  else if word4 (rest.drop 4) ≠ crc (rest.take 4 ++ (rest.drop 8).take (word4 rest)) then ([], 0, 5)
  else ((rest.drop 8).take (word4 rest), 8 + word4 rest, 0)
end Go.Proofs.YtnahghldlkjleaaGreatDoor.Fr
namespace Go.Proofs.YtnahghldlkjleaaGreatDoor.Fr
open Go.RowKit Go.Shelf

def encB (x : UInt8) : Value := .int .u8 (x.toNat : Int)

set_option maxHeartbeats 400000 in
theorem num_any (n : Int) (w : World) : Calls Tryz.prog 17 #[.int .i64 n] w fun e w' => e = .returned (.int .i64 n) ∧ w' = w := by
  go_enter Tryz.func17, Tryz.ntmps17
  go_wp2
  go_ret
  exact ⟨rfl, rfl⟩

/-- v is a slice of bytes that reads l, in a block below N. -/
def Sl (N : Nat) (W : World) (v : Value) (l : List UInt8) : Prop :=
  ∃ (a : Option Addr) (cap : Nat), v = .slice a l.length cap ∧ l.length ≤ cap ∧ cap ≤ maxLen ∧
    (l = [] ∨ ∃ b off, a = some ⟨b, off, none⟩ ∧ b < N ∧ ∀ i, i < l.length → W.cell? ⟨b, off + i, none⟩ = some (encB (l[i]?.getD 0)))

theorem encB_inj {x y : UInt8} (h : (x.toNat : Int) = (y.toNat : Int)) : x = y := UInt8.toNat_inj.1 (by omega)

theorem same_yes {l1 l2 : List UInt8} (hl : l1.length = l2.length) (h : ∀ j, j < l1.length → l1[j]?.getD 0 = l2[j]?.getD 0) : l1 = l2 := by
  apply List.ext_getElem hl
  intro i h1 h2
  have := h i h1
  simpa [List.getElem?_eq_getElem h1, List.getElem?_eq_getElem h2] using this

set_option maxRecDepth 100000 in
set_option maxHeartbeats 1000000 in
theorem same_any (N : Nat) (v1 v2 : Value) (l1 l2 : List UInt8) (w : World) (h1 : Sl N w v1 l1) (h2 : Sl N w v2 l2) :
    Calls Tryz.prog 83 #[v1, v2] w fun e w' => e = .returned (.bool (decide (l1 = l2))) ∧ ∃ n, w' = w.drewN n := by
  obtain ⟨a1, cap1, rfl, hc1, hm1, g1⟩ := h1
  obtain ⟨a2, cap2, rfl, hc2, hm2, g2⟩ := h2
  unfold maxLen at hm1 hm2
  by_cases hlen : l1.length = l2.length
  · have e1 : ((l1.length : Int) != (l2.length : Int)) = false := by simp [hlen]
    by_cases hz : l1 = []
    · subst hz
      obtain rfl : l2 = [] := List.length_eq_zero_iff.1 (by simpa using hlen.symm)
      clear hlen
      go_enter Tryz.func83, Tryz.ntmps83
      go_wp2
      go_loop [5] (fun i => i = .int .i64 0) (fun _ => 0)
      case atStart => rfl
      case round =>
        subst hrel
        go_wp2
        go_ret
        exact ⟨rfl, 0, rfl⟩
    · have hp : 0 < l1.length := List.length_pos_iff.2 hz
      obtain ⟨b1, o1, rfl, -, f1⟩ := g1.resolve_left hz
      obtain ⟨b2, o2, rfl, -, f2⟩ := g2.resolve_left (by intro h; rw [h] at hlen; simp at hlen; exact hz hlen)
      have HL : Hid (l1.length = l2.length) := hlen
      have hle : l1.length ≤ l2.length := by omega
      clear hlen
      go_enter Tryz.func83, Tryz.ntmps83
      go_wp2
      go_loopw [5] (fun i wr => ∃ k n : Nat, i = .int .i64 k ∧ k ≤ l1.length ∧ wr = w.drewN n ∧ ∀ j, j < k → l1[j]?.getD 0 = l2[j]?.getD 0) (fun i _ => l1.length - (intOf i).toNat)
      case atStart => exact ⟨0, 0, rfl, by omega, rfl, fun j hj => by omega⟩
      case round =>
        obtain ⟨k, n, rfl, hk, rfl, hj⟩ := hrel
        by_cases hlt : k < l1.length
        · have c1 := f1 k hlt
          have c2 := f2 k (by omega)
          have HJ : Hid (∀ j, j < k → l1[j]?.getD 0 = l2[j]?.getD 0) := hj
          clear hj f1 f2
          unfold encB at c1 c2
          generalize hx1 : l1[k]?.getD 0 = x1 at c1
          generalize hx2 : l2[k]?.getD 0 = x2 at c2
          have H1 : Hid (l1[k]?.getD 0 = x1) := hx1
          have H2 : Hid (l2[k]?.getD 0 = x2) := hx2
          clear hx1 hx2
          by_cases he : x1 = x2
          · subst he
            go_wp2
            go_quiet (fail)
            go_wp2
            go_roundw
            case rel => 
              refine ⟨k + 1, _, by go_num, by omega, rfl, fun j hj => ?_⟩
              by_cases e : j = k
              · subst e; rw [H1.out, H2.out]
              · exact HJ.out j (by omega)
            case measure => simp [intOf]; omega
          · have hb : (((x1.toNat : Int)) != (x2.toNat : Int)) = true := by
              rw [bne_iff_ne]; intro h; exact he (encB_inj h)
            have HN : Hid (decide (l1 = l2) = false) := by
              show decide (l1 = l2) = false
              simp only [decide_eq_false_iff_not]; intro h; apply he; rw [← H1.out, ← H2.out, h]
            clear he
            go_wp2
            go_quiet (fail)
            go_wp2
            go_ret
            rw [HN.out]
            exact ⟨rfl, n + nq, by simp⟩
        · have HN : Hid (decide (l1 = l2) = true) := by
            show decide (l1 = l2) = true
            simp only [decide_eq_true_eq]
            exact same_yes HL.out (fun j hj' => hj j (by omega))
          clear hj
          go_wp2
          go_ret
          rw [HN.out]
          exact ⟨rfl, _, rfl⟩
  · have e1 : ((l1.length : Int) != (l2.length : Int)) = true := by simp; omega
    have e2 : decide (l1 = l2) = false := by simp; intro h; exact hlen (by rw [h])
    rw [e2]
    clear hlen e2
    go_enter Tryz.func83, Tryz.ntmps83
    go_wp2
    go_ret
    exact ⟨rfl, 0, rfl⟩

theorem info5 : (Tryz.prog.info? 5).map (fun i => (i.zero, i.size, i.bytes)) = some (some (.int .u8 0), 1, 1) := by kernel_rfl

/-- v is a slice of bytes of the call's own, from block N on, that reads l. -/
def Ow (N : Nat) (W : World) (v : Value) (l : List UInt8) : Prop := W.ownsRow N 5 1 v l.length (l.map encB)

theorem encB_one (x : UInt8) : (encB x).oneCell' = true := rfl

/-- One byte more, behind an append of the call's own. -/
theorem Ow.snoc {N : Nat} {w' : World} {v' : Value} {l : List UInt8} {x : UInt8} {u : Value} (hu : u = encB x) (h : w'.ownsRow N 5 1 v' (l.length + 1) (l.map encB ++ [u])) : Ow N w' v' (l ++ [x]) := by
  subst hu; unfold Ow; simpa using h

/-- The block of a slice stayed its own, or is new. -/
def SameOrNew (w : World) (v v' : Value) : Prop := v'.ownBlock = v.ownBlock ∨ ∃ k, v'.ownBlock = some k ∧ w.heap.size ≤ k

theorem Ow.shape {N : Nat} {w : World} {v : Value} {l : List UInt8} (h : Ow N w v l) : ∃ a cap, v = .slice a l.length cap ∧ l.length ≤ cap ∧ cap ≤ maxLen := by
  rcases h.2 with ⟨rfl, h2⟩ | ⟨g, cap, cur, rfl, _, _, h3, h4, _⟩
  · exact ⟨none, 0, by rw [h2], by omega, by unfold maxLen; omega⟩
  · exact ⟨_, _, rfl, h3, h4⟩

theorem ownFrom_grown {β : Type} {w₀ : World} {row : Option Nat} {B : Nat} (hB : w₀.heap.size ≤ B) : OwnFrom B (fun (_ : β) W => w₀.grownBy W row) :=
  fun _ W W' r hs hg hr => ⟨hg.os.trans hs.os, hg.tape.trans hs.tape, hg.output.trans hs.output, Nat.le_trans hs.size hg.size, fun k hk hne =>
    (hg.block k (Nat.lt_of_lt_of_le hk hs.size) (fun e => by have := (hr k e.symm).1; omega)).trans (hs.block k hk hne)⟩

theorem grown_trans {w W W' : World} {row r : Option Nat} (h : w.grownBy W row) (hg : W.grownBy W' r) (hr : ∀ k, r = some k → row = some k ∨ w.heap.size ≤ k) : w.grownBy W' row :=
  ⟨hg.os.trans h.os, hg.tape.trans h.tape, hg.output.trans h.output, Nat.le_trans h.size hg.size, fun k hk hne =>
    (hg.block k (Nat.lt_of_lt_of_le hk h.size) (fun e => by
      rcases hr k e.symm with h' | h'
      · exact hne h'.symm
      · omega)).trans (h.block k hk hne)⟩

theorem grown_refl (w : World) (row : Option Nat) : w.grownBy w row := ⟨rfl, rfl, rfl, Nat.le_refl _, fun _ _ _ => rfl⟩

theorem SameOrNew.row {w : World} {v v' : Value} (h : SameOrNew w v v') : ∀ k, v'.ownBlock = some k → v.ownBlock = some k ∨ w.heap.size ≤ k := by
  intro k hk
  rcases h with h | ⟨j, h1, h2⟩
  · exact .inl (h ▸ hk)
  · rw [h1] at hk; cases hk; exact .inr h2

theorem SameOrNew.step {w W : World} {v v1 v2 : Value} (h : SameOrNew w v v1) (hs : w.heap.size ≤ W.heap.size) (h2 : v2.ownBlock = v1.ownBlock ∨ v2.ownBlock = some W.heap.size) : SameOrNew w v v2 := by
  rcases h2 with h2 | h2
  · rcases h with h | ⟨k, h3, h4⟩
    · exact .inl (h2.trans h)
    · exact .inr ⟨k, h2.trans h3, h4⟩
  · exact .inr ⟨_, h2, hs⟩

theorem Ow.sl {N M : Nat} {w : World} {v : Value} {l : List UInt8} (h : Ow N w v l) (hM : w.heap.size ≤ M) : Sl M w v l := by
  obtain ⟨a, cap, rfl, h1, h2⟩ := h.shape
  refine ⟨a, cap, rfl, h1, h2, ?_⟩
  rcases h.2 with ⟨_, h0⟩ | ⟨g, cap', cur, hv, hg, hh, hc1, hc2, hc3, hc4⟩
  · exact .inl (List.length_eq_zero_iff.1 h0)
  · cases hv
    refine .inr ⟨g, 0, rfl, Nat.lt_of_lt_of_le (Array.getElem?_eq_some_iff.1 hh).1 hM, fun i hi => ?_⟩
    simp only [Nat.mul_one] at hc4
    have h5 : cur.toList[i]? = some (encB (l[i]?.getD 0)) := by
      have : (cur.toList.take l.length)[i]? = (l.map encB)[i]? := by rw [hc4]
      rw [List.getElem?_take, if_pos hi, List.getElem?_map] at this
      rw [this, List.getElem?_eq_getElem hi]; rfl
    simp only [World.cell?, hh, Nat.zero_add]
    simpa using h5

theorem Sl.mono {N M : Nat} {w : World} {v : Value} {l : List UInt8} (h : Sl N w v l) (hM : N ≤ M) : Sl M w v l := by
  obtain ⟨a, cap, rfl, h1, h2, h3⟩ := h
  refine ⟨a, cap, rfl, h1, h2, ?_⟩
  rcases h3 with h3 | ⟨b, off, e, hb, hc⟩
  · exact .inl h3
  · exact .inr ⟨b, off, e, by omega, hc⟩

theorem Sl.below {N : Nat} {w w' : World} {v : Value} {l : List UInt8} (h : Sl N w v l) (hB : Below N w w') : Sl N w' v l := by
  obtain ⟨a, cap, rfl, h1, h2, h3⟩ := h
  refine ⟨a, cap, rfl, h1, h2, ?_⟩
  rcases h3 with h3 | ⟨b, off, e, hb, hc⟩
  · exact .inl h3
  · exact .inr ⟨b, off, e, hb, fun i hi => (hB.cell (p := ⟨b, off + i, none⟩) hb).trans (hc i hi)⟩

theorem run_append_ow (ty : TypeId) (w : World) (N M : Nat) (v xv : Value) (l m : List UInt8) (hv : Ow N w v l) (hsl : Sl M w xv m) (hlen : l.length + m.length ≤ 1099511627776) (hN : N ≤ w.heap.size) :
    ∃ v' w', (Builtin.append_ #[55, 55] ty #[v, xv]).run Tryz.prog w = .ok v' w' ∧ Ow N w' v' (l ++ m) ∧ w.grownBy w' v.ownBlock ∧ (v'.ownBlock = v.ownBlock ∨ v'.ownBlock = some w.heap.size) := by
  obtain ⟨i0, hi, hz0, hz1, hz2⟩ := info_parts info5
  obtain ⟨a, cap, rfl, h1, h2, h3⟩ := hsl
  have key : ∀ ad : Addr, (∀ j u, (m.map encB)[j]? = some u → w.cell? (ad.add j) = some u) → ∃ v' w', (Builtin.append_ #[55, 55] ty #[v, .slice (some ad) m.length cap]).run Tryz.prog w = .ok v' w' ∧ Ow N w' v' (l ++ m) ∧ w.grownBy w' v.ownBlock ∧ (v'.ownBlock = v.ownBlock ∨ v'.ownBlock = some w.heap.size) := by
    intro ad had
    obtain ⟨v', w', r1, r2, r3, _, r5⟩ := run_append_own_at (P := Tryz.prog) w N 55 ty 5 i0 (.int .u8 0) 1 1 Tryz.underlying55 hi hz0 hz1 hz2 rfl (by decide) v l.length (l.map encB) hv ad m.length cap (m.map encB) (by simp) had (by intro u hu; obtain ⟨x, _, rfl⟩ := List.mem_map.1 hu; rfl) (by unfold maxLen; omega) (by omega) hN
    exact ⟨v', w', r1, by unfold Ow; simpa using r2, r3, r5⟩
  rcases h3 with rfl | ⟨b, off, rfl, hb, hc⟩
  · cases a with
    | none =>
      refine ⟨v, w, ?_, by simpa using hv, grown_refl w _, .inl rfl⟩
      rcases hv.2 with ⟨rfl, _⟩ | ⟨g, cap', cur, rfl, _, _, hnc, _⟩
      · simp [Builtin.append_, run_underlying Tryz.underlying55, sizeOf, typeInfo, hi, Builtin.lenOf, Builtin.firstCells]
      · simp [Builtin.append_, run_underlying Tryz.underlying55, sizeOf, typeInfo, hi, Builtin.lenOf, Builtin.firstCells, hnc, storeCells]
    | some ad => exact key ad (by simp)
  · refine key _ (fun j u hj => ?_)
    simp only [List.getElem?_map, Option.map_eq_some_iff] at hj
    obtain ⟨x, hx, rfl⟩ := hj
    have hlt := (List.getElem?_eq_some_iff.1 hx).1
    have := hc j hlt
    rw [hx] at this
    rw [Addr.add_lit]
    simpa using this

/-- An append of bytes onto bytes of the call's own, as a law of the walk. -/
theorem wpList_append_ow {ops : Array Oper} {rest : List Oper} {o : Oper} {a : Act} {Q : Exit → Act → World → Prop} {w : World} (hgd : o.guard = none) (s x : Operand)
    (ho : o.op = .call { callee := .builtin .append, args := #[s, x], argTypes := #[55, 55] })
    (N M : Nat) (v xv : Value) (l m : List UInt8) (hs : a.eval s = v) (hv : Ow N w v l) (hx : a.eval x = xv) (hsl : Sl M w xv m) (hlen : l.length + m.length ≤ 1099511627776) (hN : N ≤ w.heap.size)
    (h : ∀ v' w', Ow N w' v' (l ++ m) → w.grownBy w' v.ownBlock → (v'.ownBlock = v.ownBlock ∨ v'.ownBlock = some w.heap.size) → wpList Tryz.prog ops Q rest (a.put o.dst v') w') :
    wpList Tryz.prog ops Q (o :: rest) a w := by
  refine wpList_plain hgd fun K hK => ?_
  obtain ⟨v', w', hr, h2, h3, h4⟩ := run_append_ow o.type w N M v xv l m hv hsl hlen hN
  unfold Oper.wp execOp
  simp only [ho, resolve, invoke, builtin, Sem.run_bind, Sem.run_pure, Result.andThen_ok, List.map_toArray, List.map_cons, List.map_nil, hs, hx, hr]
  exact hK _ _ (h v' w' h2 h3 h4)

theorem Ow.nil (N : Nat) (w : World) : Ow N w (.slice none 0 0) [] := World.ownsRow_nil _ _ _ _

set_option maxRecDepth 100000 in
set_option maxHeartbeats 400000 in
/-- wire.fresh: a copy in new memory. -/
theorem fresh_any (M : Nat) (v : Value) (l : List UInt8) (w : World) (hv : Sl M w v l) (hl : l.length ≤ 1099511627776) :
    Calls Tryz.prog 255 #[v] w fun e w' => ∃ v', e = .returned v' ∧ Ow w.heap.size w' v' l ∧ Below w.heap.size w w' := by
  obtain ⟨a, cap, rfl, -⟩ := id hv
  go_enter Tryz.func255, Tryz.ntmps255
  go_wp2_with (at_builtin; refine wpList_append_ow rfl _ _ rfl w.heap.size M _ _ [] l rfl (Ow.nil _ _) rfl hv (by simpa using hl) (Nat.le_refl _) ?_; intro v' w1 hO hg _)
  go_ret
  exact ⟨v', rfl, hO, (Below.refl _ _).grown hg (Nat.le_refl _) (fun k e => by cases e)⟩

set_option maxRecDepth 100000 in
set_option maxHeartbeats 400000 in
/-- The document's Bytes: a copy in new memory. -/
theorem bytes_any (M : Nat) (v : Value) (l : List UInt8) (w : World) (hv : Sl M w v l) (hM : M ≤ w.heap.size) (hl : l.length ≤ 1099511627776) :
    Calls Tryz.prog 44 #[v] w fun e w' => ∃ v', e = .returned v' ∧ Ow w.heap.size w' v' l ∧ Below w.heap.size w w' := by
  obtain ⟨a, cap, rfl, -⟩ := id hv
  go_enter Tryz.func44, Tryz.ntmps44
  have hO0 : Ow w.heap.size (w.alloc (.cells #[] 5)) (.slice (some ⟨w.heap.size, 0, none⟩) 0 0) [] :=
    ⟨by simp, .inr ⟨w.heap.size, 0, #[], rfl, Nat.le_refl _, World.alloc_heap_new w _, by simp, by unfold maxLen; omega, by simp, by simp⟩⟩
  have hB0 : Below w.heap.size w (w.alloc (.cells #[] 5)) := (Below.refl _ w).alloc (Nat.le_refl _) _
  have hv1 := hv.below (hB0.mono hM)
  go_wp2_with (at_builtin; refine wpList_append_ow rfl _ _ rfl w.heap.size M _ _ [] l rfl hO0 rfl hv1 (by simpa using hl) (by simp) ?_; intro v' w1 hO hg _)
  go_ret
  exact ⟨v', rfl, hO, hB0.grown hg (by simp) (fun k e => by cases e; exact Nat.le_refl _)⟩

theorem Ow.below {N B : Nat} {w w' : World} {v : Value} {l : List UInt8} (h : Ow N w v l) (hB : Below B w w') (hs : w.heap.size ≤ B) : Ow N w' v l :=
  h.kept (row := none) ⟨hB.os, hB.tape, hB.output, hB.size, fun k hk _ => hB.block k (by omega)⟩ (by cases v.ownBlock <;> simp)

theorem Ow.alloc {N : Nat} {w : World} {v : Value} {l : List UInt8} (h : Ow N w v l) (o : Obj) : Ow N (w.alloc o) v l :=
  h.kept (World.grownBy_alloc w o none) (by cases v.ownBlock <;> simp)

/-- Bytes that are written out. -/
theorem sl_new (w : World) (l : List UInt8) (c : Array Value) (hl : 0 < l.length) (hm : l.length ≤ 1000) (hc : c.toList = l.map encB) : Sl (w.heap.size + 1) (w.alloc (.cells c 5)) (.slice (some ⟨w.heap.size, 0, none⟩) l.length l.length) l := by
  refine ⟨_, _, rfl, Nat.le_refl _, by unfold maxLen; omega, .inr ⟨_, _, rfl, by omega, fun i hi => ?_⟩⟩
  have h : (w.alloc (.cells c 5)).heap[w.heap.size]? = some (.cells c 5) := World.alloc_heap_new w _
  simp only [World.cell?, h, Nat.zero_add]
  have : c.toList[i]? = (l.map encB)[i]? := by rw [hc]
  rw [List.getElem?_map, List.getElem?_eq_getElem hi] at this
  simpa [hi] using this

theorem Ow.kept {N : Nat} {w w' : World} {v : Value} {l : List UInt8} {row : Option Nat} (h : Ow N w v l) (hg : w.grownBy w' row) (hne : v.ownBlock = none ∨ v.ownBlock ≠ row) : Ow N w' v l := World.ownsRow.kept h hg hne

theorem Ow.not_at {N : Nat} {w : World} {v : Value} {l : List UInt8} (h : Ow N w v l) {R : Nat} {cs : Array Value} {t : TypeId} {z : Nat × Nat} (hR : w.heap[R]? = some (.cells cs t z)) (ht : t ≠ 5) : v.ownBlock ≠ some R := by
  rcases h.2 with ⟨rfl, _⟩ | ⟨g, cap, cur, rfl, _, hgb, _⟩
  · simp [Value.ownBlock]
  · intro e'
    obtain rfl : g = R := by simpa [Value.ownBlock] using e'
    rw [hR] at hgb
    simp at hgb
    exact ht hgb.2.1

theorem Below.grownBy' {w w' : World} (h : Below w.heap.size w w') (row : Option Nat) : w.grownBy w' row := ⟨h.os, h.tape, h.output, h.size, fun k hk _ => h.block k hk⟩

def byteAt (l : List UInt8) (i : Nat) : UInt8 := l[i]?.getD 0

/-- Bytes from an address on. -/
def CellsAt (W : World) (b off : Nat) (l : List UInt8) : Prop := ∀ i, i < l.length → W.cell? ⟨b, off + i, none⟩ = some (.int .u8 ((byteAt l i).toNat : Int))

/-- The reader's own bytes, at an address. -/
theorem Ow.at0 {N : Nat} {w : World} {b : Option Addr} {cap : Nat} {l : List UInt8} (h : Ow N w (.slice b l.length cap) l) (hl : 0 < l.length) : ∃ g, b = some ⟨g, 0, none⟩ ∧ g < w.heap.size ∧ l.length ≤ cap ∧ cap ≤ maxLen ∧ CellsAt w g 0 l := by
  have h' := h.sl (M := w.heap.size) (Nat.le_refl _)
  rcases h.2 with ⟨h0, h1⟩ | ⟨g, cap', cur, hv, hg, hh, hc1, hc2, hc3, hc4⟩
  · omega
  · cases hv
    obtain ⟨a, c, e, -, -, h3⟩ := h'
    cases e
    obtain ⟨b', off, e2, hb, hc⟩ := h3.resolve_left (by intro h; rw [h] at hl; simp at hl)
    cases e2
    exact ⟨g, rfl, hb, hc1, hc2, hc⟩

theorem Ow.base {N N' : Nat} {w : World} {v : Value} {l : List UInt8} (h : Ow N w v l) (hN : N' ≤ N) : Ow N' w v l := by
  refine ⟨h.1, ?_⟩
  rcases h.2 with h2 | ⟨g, cap, cur, hv, hg, r⟩
  · exact .inl h2
  · exact .inr ⟨g, cap, cur, hv, by omega, r⟩

theorem Sl.nil (M : Nat) (w : World) : Sl M w (.slice none 0 0) [] := ⟨none, 0, rfl, by simp, by unfold maxLen; omega, .inl rfl⟩

theorem grown_drewN (w : World) (n : Nat) : w.grownBy (w.drewN n) none := ⟨rfl, rfl, rfl, Nat.le_refl _, fun _ _ _ => rfl⟩

/-- One byte of bytes of the call's own is written over. -/
theorem Ow.store {N : Nat} {w : World} {g cap : Nat} {l : List UInt8} (h : Ow N w (.slice (some ⟨g, 0, none⟩) l.length cap) l) (k : Nat) (x : UInt8) :
    Ow N (w.setCell ⟨g, k, none⟩ (encB x)) (.slice (some ⟨g, 0, none⟩) l.length cap) (l.set k x) := by
  rcases h.2 with ⟨h0, h1⟩ | ⟨g', cap', cur, hv, hg, hh, hc1, hc2, hc3, hc4⟩
  · cases h0
  · cases hv
    refine ⟨by simp, .inr ⟨g, cap, cur.set! k (encB x), by simp, hg, ?_, by simpa using hc1, hc2, by simpa using hc3, ?_⟩⟩
    · obtain ⟨hlt, he⟩ := Array.getElem?_eq_some_iff.1 hh
      show (w.heap.modify g _)[g]? = _
      rw [Array.getElem?_eq_getElem (by rw [Array.size_modify]; exact hlt), Array.getElem_modify_self, he]
      simp
    · simp only [Nat.mul_one, List.length_set] at hc4 ⊢
      rw [Array.set!_eq_setIfInBounds, Array.toList_setIfInBounds, List.take_set, hc4, List.map_set]

theorem Ow.can {N : Nat} {w : World} {g cap : Nat} {l : List UInt8} (h : Ow N w (.slice (some ⟨g, 0, none⟩) l.length cap) l) (k : Nat) (hk : k < l.length) : w.cell? ⟨g, k, none⟩ = some (encB (byteAt l k)) ∧ w.frozen? ⟨g, k, none⟩ = false ∧ N ≤ g := by
  obtain ⟨g', e, _, _, _, hc⟩ := h.at0 (by omega)
  cases e
  refine ⟨by have := hc k hk; rw [Nat.zero_add] at this; exact this, ?_, ?_⟩
  · rcases h.2 with ⟨h0, _⟩ | ⟨g', cap', cur, hv, hg, hh, _⟩
    · cases h0
    · cases hv; simp [World.frozen?, hh]
  · exact (World.ownsRow.lt h g rfl).1

/-- What was lent, as far as it reads. -/
theorem Ow.lent {N M : Nat} {w : World} {g cap : Nat} {l : List UInt8} (h : Ow N w (.slice (some ⟨g, 0, none⟩) (l.length + 1) cap) (l ++ [201])) (hM : w.heap.size ≤ M) : Sl M w (.slice (some ⟨g, 0, none⟩) l.length cap) l := by
  obtain ⟨a, c, e, h1, h2, h3⟩ := h.sl hM
  have hlen : (l ++ [(201 : UInt8)]).length = l.length + 1 := by simp
  rw [hlen] at e h1
  cases e
  refine ⟨_, _, rfl, by omega, h2, ?_⟩
  obtain ⟨b, off, e2, hb, hc⟩ := h3.resolve_left (by simp)
  refine .inr ⟨b, off, e2, hb, fun i hi => ?_⟩
  rw [hc i (by omega)]
  simp [List.getElem?_append, hi]

theorem Ow.mark {N : Nat} {w : World} {g cap : Nat} {l : List UInt8} (h : Ow N w (.slice (some ⟨g, 0, none⟩) (l.length + 1) cap) (l ++ [201])) : w.cell? ⟨g, l.length, none⟩ = some (.int .u8 201) ∧ l.length + 1 ≤ cap ∧ cap ≤ maxLen := by
  obtain ⟨a, c, e, h1, h2, h3⟩ := h.sl (Nat.le_refl _)
  have hlen : (l ++ [(201 : UInt8)]).length = l.length + 1 := by simp
  rw [hlen] at e h1
  cases e
  obtain ⟨b, off, e2, hb, hc⟩ := h3.resolve_left (by simp)
  cases e2
  refine ⟨?_, h1, h2⟩
  have := hc l.length (by omega)
  rw [Nat.zero_add] at this
  rw [this]
  simp [encB]

end Go.Proofs.YtnahghldlkjleaaGreatDoor.Fr
namespace Go.Proofs.YtnahghldlkjleaaGreatDoor.Fr
open Go.RowKit Go.Shelf

theorem ofInt_toNat32 (x : BitVec 32) : BitVec.ofInt 32 (x.toNat : Int) = x := by
  apply BitVec.eq_of_toNat_eq
  have := x.isLt
  simp only [BitVec.toNat_ofInt]
  omega

theorem wrap_u32_nat (n : Nat) (h : n < 4294967296) : IntKind.u32.wrap (n : Int) = (n : Int) := by
  rw [IntKind.wrap_u32]; omega

theorem xor_u32 (x y : BitVec 32) : bits .xor .u32 (x.toNat : Int) (y.toNat : Int) = ((x ^^^ y).toNat : Int) := by
  show IntKind.u32.wrap ((BitVec.ofInt 32 (x.toNat : Int) ^^^ BitVec.ofInt 32 (y.toNat : Int)).toNat : Int) = _
  rw [ofInt_toNat32, ofInt_toNat32]
  exact wrap_u32_nat _ (x ^^^ y).isLt

theorem and_u32 (x y : BitVec 32) : bits .and .u32 (x.toNat : Int) (y.toNat : Int) = ((x &&& y).toNat : Int) := by
  show IntKind.u32.wrap ((BitVec.ofInt 32 (x.toNat : Int) &&& BitVec.ofInt 32 (y.toNat : Int)).toNat : Int) = _
  rw [ofInt_toNat32, ofInt_toNat32]
  exact wrap_u32_nat _ (x &&& y).isLt

theorem or_u32 (x y : BitVec 32) : bits .or .u32 (x.toNat : Int) (y.toNat : Int) = ((x ||| y).toNat : Int) := by
  show IntKind.u32.wrap ((BitVec.ofInt 32 (x.toNat : Int) ||| BitVec.ofInt 32 (y.toNat : Int)).toNat : Int) = _
  rw [ofInt_toNat32, ofInt_toNat32]
  exact wrap_u32_nat _ (x ||| y).isLt

theorem lsb_mod (d : BitVec 32) : d.getLsbD 0 = decide (d.toNat % 2 = 1) := by
  rw [BitVec.getLsbD, Nat.testBit_zero]

theorem shr1_toNat (d : BitVec 32) : (d >>> 1).toNat = d.toNat / 2 := by
  rw [BitVec.toNat_ushiftRight, Nat.shiftRight_eq_div_pow]

theorem and1_u32 (d : BitVec 32) : bits .and .u32 (d.toNat : Int) 1 = ((d.toNat % 2 : Nat) : Int) := by
  have := and_u32 d 1#32
  rw [show ((1#32 : BitVec 32).toNat : Int) = 1 from rfl] at this
  rw [this, BitVec.toNat_and, show (1#32 : BitVec 32).toNat = 1 from rfl, Nat.and_one_is_mod]

theorem shifted_step (d : BitVec 32) : bits .xor .u32 ((d.toNat : Int) / 2) (2197175160 * bits .and .u32 (d.toNat : Int) 1 % 4294967296) = ((sh d).toNat : Int) := by
  rw [and1_u32]
  have h1 : (d.toNat : Int) / (2 : Int) = ((d >>> 1).toNat : Int) := by rw [shr1_toNat]; omega
  rw [h1]
  unfold sh
  rw [← xor_u32, lsb_mod]
  congr 1
  rcases Nat.mod_two_eq_zero_or_one d.toNat with h | h
  · simp [h]
  · simp [h, poly]

theorem shN_snoc (k : Nat) (hk : k < 8) (d : BitVec 32) : shN (8 - k) d = shN (8 - (k + 1)) (sh d) := by
  obtain ⟨j, hj⟩ : ∃ j, 8 - k = j + 1 := ⟨8 - k - 1, by omega⟩
  rw [hj, show 8 - (k + 1) = j by omega]; rfl

set_option maxHeartbeats 400000 in
theorem shifted_any (c : BitVec 32) (w : World) : Calls Tryz.prog 277 #[.int .u32 (c.toNat : Int)] w fun e w' => e = .returned (.int .u32 ((shN 8 c).toNat : Int)) ∧ w' = w := by
  go_enter Tryz.func277, Tryz.ntmps277
  go_wp2
  go_loop [0, 3] (fun s i => ∃ (k : Nat) (d : BitVec 32), i = .int .i64 (k : Int) ∧ s = .int .u32 (d.toNat : Int) ∧ k ≤ 8 ∧ shN (8 - k) d = shN 8 c) (fun _ i => 8 - (intOf i).toNat)
  case atStart => exact ⟨0, c, rfl, rfl, by omega, rfl⟩
  case round =>
    obtain ⟨k, d, rfl, rfl, hk, hd⟩ := hrel
    have HD : Hid (shN (8 - k) d = shN 8 c) := hd
    clear hd
    have hdl := d.isLt
    by_cases hlt : k < 8
    · go_wp2
      go_round
      case rel => 
        refine ⟨k + 1, sh d, by go_num, by rw [shifted_step], by omega, ?_⟩
        rw [← shN_snoc k hlt]; exact HD.out
      case measure => simp [intOf]; omega
    · go_wp2
      go_ret
      have := HD.out
      rw [show 8 - k = 0 by omega] at this
      exact ⟨by rw [← this]; rfl, rfl⟩

theorem shifted_byte (d : BitVec 32) (x : UInt8) (w : World) : Calls Tryz.prog 277 #[.int .u32 ((d.toNat ^^^ x.toNat : Nat) : Int)] w fun e w' => e = .returned (.int .u32 ((crcStep d x).toNat : Int)) ∧ w' = w := by
  have := shifted_any (d ^^^ BitVec.ofNat 32 x.toNat) w
  rw [BitVec.toNat_xor, BitVec.toNat_ofNat, Nat.mod_eq_of_lt (by have := x.toNat_lt; omega)] at this
  exact this

theorem sh_even (d : BitVec 32) (h : d.toNat % 2 = 0) : ((d.toNat : Int) / 2) = ((sh d).toNat : Int) := by
  unfold sh
  rw [lsb_mod, h]
  simp only [Nat.zero_ne_one, decide_false, Bool.false_eq_true, if_false, BitVec.xor_zero, shr1_toNat]
  omega

theorem sh_odd (d : BitVec 32) (h : d.toNat % 2 = 1) : bits .xor .u32 ((d.toNat : Int) / 2) 2197175160 = ((sh d).toNat : Int) := by
  have h1 : (d.toNat : Int) / (2 : Int) = ((d >>> 1).toNat : Int) := by rw [shr1_toNat]; omega
  unfold sh
  rw [lsb_mod, h, h1]
  simp only [decide_true, if_true]
  exact xor_u32 _ poly

theorem xbyte_u32 (c : BitVec 32) (x : UInt8) : bits .xor .u32 (c.toNat : Int) (x.toNat : Int) = ((c ^^^ BitVec.ofNat 32 x.toNat).toNat : Int) := by
  rw [← xor_u32]
  congr 1
  have := x.toNat_lt
  simp only [BitVec.toNat_ofNat]
  omega

set_option maxHeartbeats 400000 in
theorem step_any (c : BitVec 32) (x : UInt8) (w : World) : Calls Tryz.prog 266 #[.int .u32 (c.toNat : Int), encB x] w fun e w' => e = .returned (.int .u32 ((crcStep c x).toNat : Int)) ∧ w' = w := by
  unfold crcStep encB
  have hxl := x.toNat_lt
  have hcl := c.isLt
  go_enter Tryz.func266, Tryz.ntmps266
  go_wp2
  go_loop [0, 5] (fun s i => ∃ (k : Nat) (d : BitVec 32), i = .int .i64 (k : Int) ∧ s = .int .u32 (d.toNat : Int) ∧ k ≤ 8 ∧ shN (8 - k) d = shN 8 (c ^^^ BitVec.ofNat 32 x.toNat)) (fun _ i => 8 - (intOf i).toNat)
  case atStart => exact ⟨0, _, rfl, by rw [xbyte_u32], by omega, rfl⟩
  case round =>
    obtain ⟨k, d, rfl, rfl, hk, hd⟩ := hrel
    have HD : Hid (shN (8 - k) d = shN 8 (c ^^^ BitVec.ofNat 32 x.toNat)) := hd
    clear hd
    have hdl := d.isLt
    by_cases hlt : k < 8
    · rcases Nat.mod_two_eq_zero_or_one d.toNat with h | h
      · have h' : ((d.toNat : Int) % 2 == 1) = false := by rw [beq_eq_false_iff_ne]; omega
        go_wp2
        go_round
        case rel => 
          refine ⟨k + 1, sh d, by go_num, by rw [sh_even d h], by omega, ?_⟩
          rw [← shN_snoc k hlt]; exact HD.out
        case measure => simp [intOf]; omega
      · have h' : ((d.toNat : Int) % 2 == 1) = true := by rw [beq_iff_eq]; omega
        go_wp2
        go_round
        case rel => 
          refine ⟨k + 1, sh d, by go_num, by rw [sh_odd d h], by omega, ?_⟩
          rw [← shN_snoc k hlt]; exact HD.out
        case measure => simp [intOf]; omega
    · go_wp2
      go_ret
      have := HD.out
      rw [show 8 - k = 0 by omega] at this
      exact ⟨by rw [← this]; rfl, rfl⟩

/-- v is a slice of slices of bytes that reads ls, in blocks below N. -/
def Sls (N : Nat) (W : World) (v : Value) (ls : List (List UInt8)) : Prop :=
  ∃ (a : Option Addr) (cap : Nat), v = .slice a ls.length cap ∧ ls.length ≤ cap ∧ cap ≤ maxLen ∧
    (ls = [] ∨ ∃ b off, a = some ⟨b, off, none⟩ ∧ b < N ∧ ∀ i, i < ls.length → ∃ u, W.cell? ⟨b, off + i, none⟩ = some u ∧ Sl N W u (ls[i]?.getD []))

theorem crc_all (ls : List (List UInt8)) : ((~~~ (crcRun (BitVec.allOnes 32) (ls.take ls.length).flatten)).toNat) = crc ls.flatten := by
  rw [List.take_length]; rfl

theorem run_take_snoc (c : BitVec 32) (l : List UInt8) (k : Nat) (h : k < l.length) : crcRun c (l.take (k + 1)) = crcStep (crcRun c (l.take k)) (l[k]?.getD 0) := by
  rw [List.take_succ_eq_append_getElem h, crcRun_append, List.getElem?_eq_getElem h]; rfl

theorem run_takes_snoc (ls : List (List UInt8)) (k : Nat) (h : k < ls.length) : crcRun (crcRun (BitVec.allOnes 32) (ls.take k).flatten) (ls[k]?.getD []) = crcRun (BitVec.allOnes 32) (ls.take (k + 1)).flatten := by
  rw [List.take_succ_eq_append_getElem h, List.flatten_append, crcRun_append, List.getElem?_eq_getElem h]; simp

theorem not_u32 (c : BitVec 32) : bits .xor .u32 IntKind.u32.max (c.toNat : Int) = ((~~~ c).toNat : Int) := by
  rw [show IntKind.u32.max = ((BitVec.allOnes 32).toNat : Int) from rfl, xor_u32, BitVec.allOnes_xor]

set_option maxRecDepth 100000 in
set_option maxHeartbeats 1000000 in
theorem sumOf_any (N : Nat) (v : Value) (ls : List (List UInt8)) (w : World) (hv : Sls N w v ls) :
    Calls Tryz.prog 254 #[v] w fun e w' => e = .returned (.int .u32 (crc ls.flatten : Int)) ∧ w' = w := by
  obtain ⟨a, cap, rfl, h1, h2, h3⟩ := hv
  unfold maxLen at h2
  go_enter Tryz.func254, Tryz.ntmps254
  go_wp2
  go_loop [3, 10] (fun s i => ∃ (k : Nat) (c : BitVec 32), i = .int .i64 (k : Int) ∧ s = .int .u32 (c.toNat : Int) ∧ k ≤ ls.length ∧ c = crcRun (BitVec.allOnes 32) (ls.take k).flatten) (fun _ i => ls.length - (intOf i).toNat)
  case atStart => exact ⟨0, BitVec.allOnes 32, rfl, rfl, by omega, rfl⟩
  case round =>
    obtain ⟨k, c, rfl, rfl, hk, hc⟩ := hrel
    have HC : Hid (c = crcRun (BitVec.allOnes 32) (ls.take k).flatten) := hc
    clear hc
    have hcl := c.isLt
    by_cases hlt : k < ls.length
    · obtain ⟨b, off, rfl, -, h4⟩ := h3.resolve_left (by intro h; rw [h] at hlt; simp at hlt)
      obtain ⟨u, hu, a1, cap1, rfl, hl1, hl2, hl3⟩ := h4 k hlt
      clear h4 h3
      have HT : Hid (crcRun c (ls[k]?.getD []) = crcRun (BitVec.allOnes 32) (ls.take (k + 1)).flatten) := by
        show _ = _
        rw [HC.out]; exact run_takes_snoc ls k hlt
      generalize ls[k]?.getD [] = l at *
      unfold maxLen at hl2
      go_wp2
      go_loop [3, 16] (fun s i => ∃ (j : Nat) (d : BitVec 32), i = .int .i64 (j : Int) ∧ s = .int .u32 (d.toNat : Int) ∧ j ≤ l.length ∧ d = crcRun c (l.take j)) (fun _ i => l.length - (intOf i).toNat)
      case atStart => exact ⟨0, c, rfl, rfl, by omega, rfl⟩
      case round =>
        obtain ⟨j, d, rfl, rfl, hj, hd⟩ := hrel
        have HD : Hid (d = crcRun c (l.take j)) := hd
        clear hd
        have hdl := d.isLt
        by_cases hlt2 : j < l.length
        · obtain ⟨b1, off1, rfl, -, h5⟩ := hl3.resolve_left (by intro h; rw [h] at hlt2; simp at hlt2)
          have hcell := h5 j hlt2
          clear h5 hl3
          have HS : Hid (crcRun c (l.take (j + 1)) = crcStep d (l[j]?.getD 0)) := by
            show _ = _
            rw [HD.out]; exact run_take_snoc c l j hlt2
          unfold encB at hcell
          generalize l[j]?.getD 0 = x at *
          have hx := xbyte_u32 d x
          have hxl := x.toNat_lt
          go_wp2_with (go_at_call 277; refine (shifted_byte d x _).mono ?_; rintro e w' ⟨rfl, hw⟩; subst w')
          go_round
          case rel => exact ⟨j + 1, crcStep d x, by go_num, rfl, by omega, HS.out.symm⟩
          case measure => simp [intOf]; omega
        · clear hl3
          go_wp2
          go_round
          case rel => 
            refine ⟨k + 1, d, by go_num, rfl, by omega, ?_⟩
            rw [← HT.out, HD.out, List.take_of_length_le (by omega)]
          case measure => simp [intOf]; omega
    · clear h3
      have HE : Hid (bits .xor .u32 IntKind.u32.max (c.toNat : Int) = (crc ls.flatten : Int)) := by
        show _ = _
        rw [not_u32, HC.out, show k = ls.length by omega, crc_all]
      go_wp2
      go_ret
      exact ⟨by rw [← HE.out]; rfl, rfl⟩

set_option maxRecDepth 100000 in
set_option maxHeartbeats 1000000 in
/-- The document's Sum. -/
theorem refSum_any (N : Nat) (v : Value) (l : List UInt8) (w : World) (hv : Sl N w v l) :
    Calls Tryz.prog 225 #[v] w fun e w' => e = .returned (.int .u32 (crc l : Int)) ∧ w' = w := by
  obtain ⟨a, cap, rfl, h1, h2, h3⟩ := hv
  unfold maxLen at h2
  go_enter Tryz.func225, Tryz.ntmps225
  go_wp2
  go_loop [3, 4] (fun s i => ∃ (k : Nat) (c : BitVec 32), i = .int .i64 (k : Int) ∧ s = .int .u32 (c.toNat : Int) ∧ k ≤ l.length ∧ c = crcRun (BitVec.allOnes 32) (l.take k)) (fun _ i => l.length - (intOf i).toNat)
  case atStart => exact ⟨0, BitVec.allOnes 32, rfl, rfl, by omega, rfl⟩
  case round =>
    obtain ⟨k, c, rfl, rfl, hk, hc⟩ := hrel
    have HC : Hid (c = crcRun (BitVec.allOnes 32) (l.take k)) := hc
    clear hc
    have hcl := c.isLt
    by_cases hlt : k < l.length
    · obtain ⟨b, off, rfl, -, h4⟩ := h3.resolve_left (by intro h; rw [h] at hlt; simp at hlt)
      have hcell := h4 k hlt
      clear h4 h3
      have HS : Hid (crcRun (BitVec.allOnes 32) (l.take (k + 1)) = crcStep c (l[k]?.getD 0)) := by
        show _ = _
        rw [HC.out]; exact run_take_snoc _ l k hlt
      generalize l[k]?.getD 0 = x at *
      go_wp2_with (go_at_call 266; refine (step_any c x _).mono ?_; rintro e w' ⟨rfl, hw⟩; subst w')
      go_round
      case rel => exact ⟨k + 1, crcStep c x, by go_num, rfl, by omega, HS.out.symm⟩
      case measure => simp [intOf]; omega
    · clear h3
      have HE : Hid (bits .xor .u32 IntKind.u32.max (c.toNat : Int) = (crc l : Int)) := by
        show _ = _
        rw [not_u32, HC.out, show k = l.length by omega, List.take_length]; rfl
      go_wp2
      go_ret
      exact ⟨by rw [← HE.out]; rfl, rfl⟩

/-- Pieces that lie in a block that was just made. -/
theorem sls_new {w : World} {N : Nat} (ls : List (List UInt8)) (vs : List Value) (hn : 0 < ls.length) (hm : ls.length ≤ 1000) (hN : N ≤ w.heap.size) (hlen : vs.length = ls.length) (h : ∀ i, i < ls.length → Sl N w (vs[i]?.getD undef) (ls[i]?.getD [])) (t : TypeId) :
    Sls (w.heap.size + 1) (w.alloc (.cells vs.toArray t)) (.slice (some ⟨w.heap.size, 0, none⟩) ls.length ls.length) ls := by
  refine ⟨_, _, rfl, Nat.le_refl _, by unfold maxLen; omega, .inr ⟨_, _, rfl, by omega, fun i hi => ?_⟩⟩
  have hh : (w.alloc (.cells vs.toArray t)).heap[w.heap.size]? = some (.cells vs.toArray t) := World.alloc_heap_new w _
  have hB0 : Below w.heap.size w (w.alloc (.cells vs.toArray t)) := (Below.refl _ w).alloc (Nat.le_refl _) _
  refine ⟨vs[i]?.getD undef, ?_, (((h i hi).mono hN).below hB0).mono (by omega)⟩
  have : i < vs.length := by omega
  simp only [World.cell?, hh, Nat.zero_add]
  simp [List.getElem?_eq_getElem this]

end Go.Proofs.YtnahghldlkjleaaGreatDoor.Fr
namespace Go.Proofs.YtnahghldlkjleaaGreatDoor.Fr
open Go.RowKit Go.Shelf

theorem encB_ofNat (m : Nat) : encB (UInt8.ofNat m) = .int .u8 ((m : Int) % 256) := by
  unfold encB
  rw [UInt8.toNat_ofNat']
  congr 1

theorem le4_take (n k : Nat) (h : k < 4) : (le4 n).take (k + 1) = (le4 n).take k ++ [UInt8.ofNat (n / 2 ^ (8 * k))] := by
  rcases (by omega : k = 0 ∨ k = 1 ∨ k = 2 ∨ k = 3) with rfl | rfl | rfl | rfl <;> simp [le4]

theorem le4_take_len (n k : Nat) (h : k ≤ 4) : ((le4 n).take k).length = k := by simp [le4]; omega

set_option maxRecDepth 100000 in
set_option maxHeartbeats 1000000 in
theorem appendWord_any (N : Nat) (v : Value) (l : List UInt8) (n : Nat) (w : World) (hN : N ≤ w.heap.size) (hl : l.length ≤ 1073741824) (hv : Ow N w v l) :
    Calls Tryz.prog 265 #[v, .int .u32 (n : Int)] w fun e w' => ∃ v', e = .returned v' ∧ Ow N w' v' (l ++ le4 n) ∧ w.grownBy w' v.ownBlock ∧ SameOrNew w v v' := by
  obtain ⟨a, cap, rfl, -⟩ := hv.shape
  generalize hv0 : Value.slice a l.length cap = v0 at hv
  have HV0 : Hid (Value.slice a l.length cap = v0) := hv0
  clear hv0
  go_enter Tryz.func265, Tryz.ntmps265
  rw [← HV0.out]
  go_wp2
  go_loopw [0, 5] (fun o i wr => ∃ k : Nat, i = .int .i64 (8 * k : Int) ∧ k ≤ 4 ∧ ∃ a1 cap1, o = .slice a1 (l.length + k) cap1 ∧ Ow N wr o (l ++ (le4 n).take k) ∧ w.grownBy wr v0.ownBlock ∧ SameOrNew w v0 o) (fun _ i _ => 32 - (intOf i).toNat)
  case atStart => exact ⟨0, rfl, by omega, a, cap, rfl, by rw [HV0.out]; simpa using hv, grown_refl _ _, .inl (by rw [HV0.out])⟩
  case round =>
    obtain ⟨k, rfl, hk, a1, cap1, rfl, hO, hg, hs⟩ := hrel
    have hz := hg.size
    by_cases hlt : k < 4
    · have hlen : (l ++ (le4 n).take k).length = l.length + k := by rw [List.length_append, le4_take_len n k hk]
      have hlen2 : (l ++ (le4 n).take k ++ [UInt8.ofNat (n / 2 ^ (8 * k))]).length = l.length + (k + 1) := by rw [List.length_append, hlen]; simp; omega
      have hs2 := sl_new wr [UInt8.ofNat (n / 2 ^ (8 * k))] #[.int .u8 ((n : Int) / 2 ^ (8 * k) % 256)] (by simp) (by simp) (by simp [encB_ofNat])
      have hO2 := hO.alloc (.cells #[.int .u8 ((n : Int) / 2 ^ (8 * k) % 256)] 5)
      have HF : Hid (∀ v3 w3, Ow N w3 v3 (l ++ (le4 n).take k ++ [UInt8.ofNat (n / 2 ^ (8 * k))]) → (wr.alloc (.cells #[.int .u8 ((n : Int) / 2 ^ (8 * k) % 256)] 5)).grownBy w3 (Value.slice a1 (l.length + k) cap1).ownBlock → (v3.ownBlock = (Value.slice a1 (l.length + k) cap1).ownBlock ∨ v3.ownBlock = some (wr.alloc (.cells #[.int .u8 ((n : Int) / 2 ^ (8 * k) % 256)] 5)).heap.size) →
          ∃ a3 c3, v3 = .slice a3 (l.length + (k + 1)) c3 ∧ Ow N w3 v3 (l ++ (le4 n).take (k + 1)) ∧ w.grownBy w3 v0.ownBlock ∧ SameOrNew w v0 v3) := by
        intro v3 w3 h3 g3 n3
        obtain ⟨a3, c3, rfl, -, -⟩ := h3.shape
        rw [hlen2]
        rw [hlen2] at h3 n3
        refine ⟨a3, c3, rfl, by rw [le4_take n k hlt, ← List.append_assoc]; exact h3, ?_, ?_⟩
        · exact grown_trans (grown_trans hg (Below.grownBy' ((Below.refl _ wr).alloc (Nat.le_refl _) _) none) (fun k e => by cases e)) g3 hs.row
        · exact hs.step (by simp; omega) n3
      clear hv hg hs hO
      go_wp2_with (at_builtin; refine wpList_append_ow rfl _ _ rfl N _ _ _ (l ++ (le4 n).take k) [UInt8.ofNat (n / 2 ^ (8 * k))] rfl hO2 rfl hs2 (by rw [hlen]; simp; omega) (by simp; omega) ?_; intro v3 w3 hO3 hg3 hn3; obtain ⟨a3, c3, rfl, hF⟩ := HF.out v3 w3 hO3 hg3 hn3; clear hO3 hg3 hn3)
      go_roundw
      case rel => exact ⟨k + 1, by go_num, by omega, a3, c3, rfl, hF⟩
      case measure => simp [intOf]; omega
    · have HF : Hid (Ow N wr (.slice a1 (l.length + k) cap1) (l ++ le4 n) ∧ w.grownBy wr v0.ownBlock ∧ SameOrNew w v0 (.slice a1 (l.length + k) cap1)) := by
        refine ⟨?_, hg, hs⟩
        rw [List.take_of_length_le (by rw [le4_len]; omega)] at hO
        exact hO
      clear hv hg hs hO
      go_wp2
      go_ret
      rw [HV0.out]
      exact ⟨_, rfl, HF.out⟩

/-- What the first k bytes of four say. -/
def wordUp : Nat → List UInt8 → Nat
  | 0, _ => 0
  | k + 1, l => wordUp k l + 2 ^ (8 * k) * at0 l k

theorem wordUp_lt : ∀ (k : Nat) (l : List UInt8), wordUp k l < 2 ^ (8 * k)
  | 0, _ => by simp [wordUp]
  | k + 1, l => by
    have h1 := wordUp_lt k l
    have h2 := at0_lt l k
    have h3 : 2 ^ (8 * k) * at0 l k ≤ 2 ^ (8 * k) * 255 := Nat.mul_le_mul_left _ (by omega)
    have h4 : (2 : Nat) ^ (8 * (k + 1)) = 2 ^ (8 * k) * 256 := by rw [Nat.mul_add, Nat.pow_add]
    simp only [wordUp]
    omega

theorem wordUp_four (l : List UInt8) : wordUp 4 l = word4 l := by simp [wordUp, word4]

theorem lay_u32 (n x k : Nat) (hk : k < 4) (hn : n < 2 ^ (8 * k)) (hx : x < 256) : bits .or .u32 (n : Int) ((x : Int) * 2 ^ (8 * k) % 4294967296) = ((n + 2 ^ (8 * k) * x : Nat) : Int) := by
  have hp : (2 : Nat) ^ (8 * k) ≤ 16777216 := by
    have : (2 : Nat) ^ (8 * k) ≤ 2 ^ 24 := Nat.pow_le_pow_right (by decide) (by omega)
    simpa using this
  have hm : 2 ^ (8 * k) * x < 4294967296 := by
    have : 2 ^ (8 * k) * x ≤ 16777216 * 255 := Nat.mul_le_mul hp (by omega)
    omega
  have e1 : ((x : Int) * 2 ^ (8 * k) % 4294967296) = ((BitVec.ofNat 32 (2 ^ (8 * k) * x)).toNat : Int) := by
    rw [BitVec.toNat_ofNat, Nat.mod_eq_of_lt (by omega)]
    have : ((x : Int) * 2 ^ (8 * k)) = ((2 ^ (8 * k) * x : Nat) : Int) := by push_cast; exact Int.mul_comm _ _
    rw [this]
    omega
  have e2 : (n : Int) = ((BitVec.ofNat 32 n).toNat : Int) := by
    rw [BitVec.toNat_ofNat, Nat.mod_eq_of_lt (by omega)]
  rw [e1, e2, or_u32, BitVec.toNat_or, BitVec.toNat_ofNat, BitVec.toNat_ofNat, Nat.mod_eq_of_lt (by omega), Nat.mod_eq_of_lt (by omega), Nat.or_comm, ← Nat.two_pow_add_eq_or_of_lt hn, Nat.add_comm]

set_option maxRecDepth 100000 in
set_option maxHeartbeats 1000000 in
theorem wordOf_any (N : Nat) (v : Value) (l : List UInt8) (w : World) (hv : Sl N w v l) (hl : 4 ≤ l.length) :
    Calls Tryz.prog 253 #[v] w fun e w' => e = .returned (.int .u32 (word4 l : Int)) ∧ w' = w := by
  obtain ⟨a, cap, rfl, h1, h2, h3⟩ := hv
  unfold maxLen at h2
  obtain ⟨b, off, rfl, -, h4⟩ := h3.resolve_left (by intro h; rw [h] at hl; simp at hl)
  clear h3
  have HW : Hid (wordUp 4 l = word4 l) := wordUp_four l
  go_enter Tryz.func253, Tryz.ntmps253
  go_wp2
  go_loop [3, 9] (fun s i => ∃ (k n : Nat), i = .int .i64 (k : Int) ∧ s = .int .u32 (n : Int) ∧ k ≤ 4 ∧ n = wordUp k l) (fun _ i => 4 - (intOf i).toNat)
  case atStart => exact ⟨0, 0, rfl, rfl, by omega, rfl⟩
  case round =>
    obtain ⟨k, n, rfl, rfl, hk, hn⟩ := hrel
    have HN : Hid (n = wordUp k l) := hn
    clear hn
    by_cases hlt : k < 4
    · have hcell := h4 k (by omega)
      have HX : Hid (bits .or .u32 (n : Int) (((l[k]?.getD 0).toNat : Int) * 2 ^ (8 * k) % 4294967296) = ((wordUp (k + 1) l : Nat) : Int)) := by
        show _ = _
        rw [lay_u32 n _ k hlt (by rw [HN.out]; exact wordUp_lt k l) (UInt8.toNat_lt _), HN.out]
        rfl
      unfold encB at hcell
      generalize l[k]?.getD 0 = x at *
      have hxl := x.toNat_lt
      go_wp2
      go_round
      case rel => exact ⟨k + 1, wordUp (k + 1) l, by go_num, by rw [HX.out], by omega, rfl⟩
      case measure => simp [intOf]; omega
    · have HE : Hid (n = word4 l) := by
        show _ = _
        rw [HN.out, show k = 4 by omega, HW.out]
      clear h4
      go_wp2
      go_ret
      exact ⟨by rw [← HE.out]; rfl, rfl⟩

set_option maxRecDepth 100000 in
set_option maxHeartbeats 1000000 in
/-- The document's whole. -/
theorem whole_any (N : Nat) (v : Value) (l : List UInt8) (w : World) (hv : Sl N w v l) (hl : 4 ≤ l.length) :
    Calls Tryz.prog 224 #[v] w fun e w' => e = .returned (.int .i64 (word4 l : Int)) ∧ ∃ n, w' = w.drewN n := by
  obtain ⟨a, cap, rfl, h1, h2, h3⟩ := hv
  unfold maxLen at h2
  obtain ⟨b, off, rfl, -, h4⟩ := h3.resolve_left (by intro h; rw [h] at hl; simp at hl)
  clear h3
  have c0 := h4 0 (by omega)
  have c1 := h4 1 (by omega)
  have c2 := h4 2 (by omega)
  have c3 := h4 3 (by omega)
  clear h4
  unfold encB at c0 c1 c2 c3
  have HE : Hid (word4 l = (l[0]?.getD 0).toNat + 256 * (l[1]?.getD 0).toNat + 65536 * (l[2]?.getD 0).toNat + 16777216 * (l[3]?.getD 0).toNat) := rfl
  generalize l[0]?.getD 0 = x0 at *
  generalize l[1]?.getD 0 = x1 at *
  generalize l[2]?.getD 0 = x2 at *
  generalize l[3]?.getD 0 = x3 at *
  have l0 := x0.toNat_lt
  have l1 := x1.toNat_lt
  have l2 := x2.toNat_lt
  have l3 := x3.toNat_lt
  rw [Nat.add_zero] at c0
  go_enter Tryz.func224, Tryz.ntmps224
  go_wp2
  go_quiet (fail)
  go_wp2
  go_ret
  refine ⟨?_, nq, rfl⟩
  rw [HE.out]
  exact congrArg (fun z : Int => Ending.returned (Value.int .i64 z)) (by omega)

/-- Bytes that were just made are owned. -/
theorem ow_new (w : World) (l : List UInt8) (c : Array Value) (hm : l.length ≤ 1000) (hc : c.toList = l.map encB) : Ow w.heap.size (w.alloc (.cells c 5)) (.slice (some ⟨w.heap.size, 0, none⟩) l.length l.length) l := by
  have hs : c.size = l.length := by rw [← Array.length_toList, hc, List.length_map]
  exact ⟨by simp, .inr ⟨w.heap.size, l.length, c, rfl, Nat.le_refl _, World.alloc_heap_new w _, Nat.le_refl _, by unfold maxLen; omega, by simp [hs], by rw [hc]; exact List.take_of_length_le (by simp)⟩⟩

set_option maxRecDepth 100000 in
set_option maxHeartbeats 1000000 in
/-- The document's four. -/
theorem four_any (n : Nat) (hn : n < 4294967296) (w : World) :
    Calls Tryz.prog 228 #[.int .u32 (n : Int)] w fun e w' => ∃ v, e = .returned v ∧ Ow w.heap.size w' v (le4 n) ∧ Below w.heap.size w w' := by
  go_enter Tryz.func228, Tryz.ntmps228
  go_wp2
  go_ret
  refine ⟨_, rfl, ow_new w (le4 n) _ (by simp [le4]) ?_, (Below.refl _ w).alloc (Nat.le_refl _) _⟩
  simp only [le4, List.map_cons, List.map_nil, encB_ofNat]
  have h4 : ((n / 16777216 : Nat) : Int) % 256 = (n : Int) / 16777216 := by omega
  rw [h4]
  rfl

/-- A part of what is read is read. -/
theorem Sl.cut {N : Nat} {w : World} {a : Option Addr} {cap : Nat} {l : List UInt8} (h : Sl N w (.slice a l.length cap) l) (i j : Nat) (hij : i ≤ j) (hj : j ≤ l.length) (a' : Option Addr) (ha : i = j ∨ a' = a.map (fun p => p.add i)) (n c : Nat) (hn : n = j - i) (hc : c = cap - i) :
    Sl N w (.slice a' n c) ((l.drop i).take (j - i)) := by
  obtain ⟨a1, cap1, e, h1, h2, h3⟩ := h
  cases e
  have hlen : ((l.drop i).take (j - i)).length = j - i := by simp; omega
  subst hn hc
  refine ⟨a', cap - i, by rw [hlen], by omega, by omega, ?_⟩
  by_cases he : i = j
  · left; subst he; simp
  · right
    obtain ⟨b, off, rfl, hb, h4⟩ := h3.resolve_left (by intro h; rw [h] at hj; simp at hj; omega)
    obtain rfl := ha.resolve_left he
    refine ⟨b, off + i, by simp [Addr.add_lit], hb, fun k hk => ?_⟩
    rw [hlen] at hk
    have := h4 (i + k) (by omega)
    rw [show off + i + k = off + (i + k) by omega, this]
    congr 3
    rw [List.getElem?_take, if_pos hk, List.getElem?_drop]

theorem Sl.cut0 {N : Nat} {w : World} {a : Option Addr} {cap : Nat} {l : List UInt8} (h : Sl N w (.slice a l.length cap) l) (j : Nat) (hj : j ≤ l.length) : Sl N w (.slice a j cap) (l.take j) := by
  have := h.cut 0 j (by omega) hj a (.inr (by cases a <;> simp [Addr.add])) j cap (by omega) (by omega)
  simpa using this
end Go.Proofs.YtnahghldlkjleaaGreatDoor.Fr
namespace Go.Proofs.YtnahghldlkjleaaGreatDoor.Fr
open Go.RowKit Go.Shelf

/-- Put's bytes and error. -/
def putB (p : List UInt8) : List UInt8 := if p.length ≤ 1048576 then frameB p else []
def putE (p : List UInt8) : Int := if p.length ≤ 1048576 then 0 else 3

set_option maxHeartbeats 400000 in
theorem tooLong_any (N : Nat) (v : Value) (l : List UInt8) (w : World) (hv : Sl N w v l) : Calls Tryz.prog 222 #[v] w fun e w' => e = .returned (.bool (decide (1048576 < l.length))) ∧ w' = w := by
  obtain ⟨a, cap, rfl, h1, h2, -⟩ := hv
  unfold maxLen at h2
  go_enter Tryz.func222, Tryz.ntmps222
  go_wp2
  go_ret
  refine ⟨congrArg (fun z : Bool => Ending.returned (Value.bool z)) (by simp; omega), rfl⟩

theorem below_grown {N : Nat} {w w' : World} {row : Option Nat} (hg : w.grownBy w' row) (hN : N ≤ w.heap.size) (hr : ∀ k, row = some k → N ≤ k) : Below N w w' := (Below.refl N w).grown hg hN hr

theorem Ow.apart {N N' : Nat} {w w' : World} {v v' : Value} {l l' : List UInt8} (h : Ow N w v l) (h' : Ow N' w' v' l') (hs : w.heap.size ≤ N') : v.ownBlock = none ∨ v.ownBlock ≠ v'.ownBlock := by
  cases e : v.ownBlock with
  | none => exact .inl rfl
  | some k =>
    right
    intro e'
    have h1 := (World.ownsRow.lt h k e).2
    have h2 := (World.ownsRow.lt h' k e'.symm).1
    omega

set_option maxRecDepth 100000 in
set_option maxHeartbeats 2000000 in
theorem appendFrame_any (N : Nat) (v pv : Value) (l p : List UInt8) (w : World) (hN : N ≤ w.heap.size) (hl : l.length ≤ 536870912) (hp : p.length ≤ 1048576) (hv : Ow N w v l) (hpv : Sl N w pv p) :
    Calls Tryz.prog 223 #[v, pv] w fun e w' => ∃ v', e = .returned v' ∧ Ow N w' v' (l ++ frameB p) ∧ Below N w w' := by
  obtain ⟨a, cap, rfl, -⟩ := hv.shape
  obtain ⟨pa, pc, rfl, -⟩ := id hpv
  go_enter Tryz.func223, Tryz.ntmps223
  go_wp2_with fail
  refine (appendWord_any N _ l p.length w hN (by omega) hv).mono ?_
  rintro e w1 ⟨v1, rfl, hO1, hg1, -⟩
  obtain ⟨a1, c1, rfl, -⟩ := hO1.shape
  have hB1 := below_grown hg1 hN (fun k e => (World.ownsRow.lt hv k e).1)
  have hz1 := hB1.size
  have hlen1 : (l ++ le4 p.length).length = l.length + 4 := by simp [le4_len]
  obtain ⟨g1, rfl, hgl, hlc, hcm, -⟩ := hO1.at0 (by rw [hlen1]; omega)
  have hS1 := (hO1.sl (Nat.le_refl w1.heap.size)).cut l.length (l.length + 4) (by omega) (by rw [hlen1]; omega) (some ⟨g1, l.length, none⟩) (.inr (by simp [Addr.add_lit])) 4 (c1 - l.length) (by omega) rfl
  rw [show l.length + 4 - l.length = 4 by omega, List.drop_left, List.take_of_length_le (by rw [le4_len]; omega)] at hS1
  have hpv1 := (hpv.below hB1).mono (Nat.le_trans hN hz1)
  rw [hlen1] at hlc hO1 ⊢
  have hlc2 : l.length ≤ c1 := by omega
  unfold maxLen at hcm
  have hSS := sls_new (w := w1) (N := w1.heap.size) [le4 p.length, p] [.slice (some ⟨g1, l.length, none⟩) 4 (c1 - l.length), .slice pa p.length pc] (by simp) (by simp) (Nat.le_refl _) rfl (by intro i hi; rcases (by simp at hi; omega : i = 0 ∨ i = 1) with rfl | rfl; exact hS1; exact hpv1) 55
  have CS : Hid (Calls Tryz.prog 254 #[.slice (some ⟨w1.heap.size, 0, none⟩) 2 2] (w1.alloc (.cells #[.slice (some ⟨g1, l.length, none⟩) 4 (c1 - l.length), .slice pa p.length pc] 55)) fun e w' => e = .returned (.int .u32 (crc (le4 p.length ++ p) : Int)) ∧ w' = (w1.alloc (.cells #[.slice (some ⟨g1, l.length, none⟩) 4 (c1 - l.length), .slice pa p.length pc] 55))) := by
    have := sumOf_any _ _ _ _ hSS
    unfold Hid
    simpa using this
  clear hSS hS1 hpv1 hg1 hv
  go_wp2_with (go_at_call 254; refine CS.out.mono ?_; rintro e w' ⟨rfl, hw⟩; subst w'; clear CS)
  have hB2 : Below N w (w1.alloc (.cells #[.slice (some ⟨g1, l.length, none⟩) 4 (c1 - l.length), .slice pa p.length pc] 55)) := hB1.alloc (Nat.le_trans hN hz1) _
  have hO2 := hO1.alloc (.cells #[.slice (some ⟨g1, l.length, none⟩) 4 (c1 - l.length), .slice pa p.length pc] 55)
  generalize w1.alloc (.cells #[.slice (some ⟨g1, l.length, none⟩) 4 (c1 - l.length), .slice pa p.length pc] 55) = w2 at *
  have hz2 := hB2.size
  refine (appendWord_any N _ (l ++ le4 p.length) (crc (le4 p.length ++ p)) w2 (by omega) (by rw [hlen1]; omega) hO2).mono ?_
  rintro e w3 ⟨v3, rfl, hO3, hg3, -⟩
  have hB3 := hB2.trans (below_grown hg3 (by omega) (fun k e => (World.ownsRow.lt hO2 k e).1))
  have hz3 := hB3.size
  have hlen3 : (l ++ le4 p.length ++ le4 (crc (le4 p.length ++ p))).length = l.length + 8 := by simp [le4_len]
  obtain ⟨a3, c3, rfl, -⟩ := hO3.shape
  rw [hlen3] at hO3 ⊢
  have hpv3 := hpv.below hB3
  have hlt3 := World.ownsRow.lt hO3
  clear hO2 hO1 hg3 hB1 hB2 hz1 hz2 hlc hcm hlc2
  go_wp2_with (at_builtin; refine wpList_append_ow rfl _ _ rfl N N _ _ (l ++ le4 p.length ++ le4 (crc (le4 p.length ++ p))) p rfl hO3 rfl hpv3 (by rw [hlen3]; omega) (by omega) ?_; intro v4 w4 hO4 hg4 hn4)
  go_ret
  refine ⟨v4, rfl, ?_, hB3.trans (below_grown hg4 (by omega) (fun k e => (hlt3 k e).1))⟩
  unfold frameB
  simpa [List.append_assoc] using hO4

set_option maxRecDepth 100000 in
set_option maxHeartbeats 1000000 in
/-- The document's Put. -/
theorem refPut_any (N : Nat) (v : Value) (p : List UInt8) (w : World) (hv : Sl N w v p) (hN : N ≤ w.heap.size) :
    Calls Tryz.prog 183 #[v] w fun e w' => ∃ v', e = .returned (.tuple #[v', .int .i64 (putE p)]) ∧ Ow w.heap.size w' v' (putB p) ∧ Below w.heap.size w w' := by
  obtain ⟨a, cap, rfl, -, hcm, -⟩ := id hv
  unfold maxLen at hcm
  by_cases hp : p.length ≤ 1048576
  · have hE : putE p = 0 := by simp [putE, hp]
    have hB : putB p = frameB p := by simp [putB, hp]
    rw [hE, hB]
    clear hE hB
    go_enter Tryz.func183, Tryz.ntmps183
    go_wp2_with fail
    refine (four_any p.length (by omega) w).mono ?_
    rintro e w1 ⟨v1, rfl, hO1, hB1⟩
    obtain ⟨a1, c1, rfl, -⟩ := hO1.shape
    rw [le4_len] at hO1 ⊢
    have hz1 := hB1.size
    have hv1 := hv.below (hB1.mono hN)
    go_wp2_with fail
    refine (bytes_any w1.heap.size _ (le4 p.length) w1 (hO1.sl (Nat.le_refl _)) (Nat.le_refl _) (by simp [le4_len])).mono ?_
    rintro e w2 ⟨v2, rfl, hO2, hB2⟩
    obtain ⟨a2, c2, rfl, -⟩ := hO2.shape
    rw [le4_len] at hO2 ⊢
    have hz2 := hB2.size
    have hv2 := hv1.below (hB2.mono (by omega))
    have hO12 := hO1.below hB2 (Nat.le_refl _)
    have HB2 : Hid (Below w.heap.size w w2) := hB1.trans (hB2.mono hz1)
    have hlen3 : (le4 p.length ++ p).length = 4 + p.length := by simp [le4_len]
    have hlen5 : (le4 p.length ++ le4 (crc (le4 p.length ++ p))).length = 8 := by simp [le4_len]
    have hap := hO1.apart hO2 (Nat.le_refl _)
    clear hO1 hB1 hv1 hv
    go_wp2_with (at_builtin; refine wpList_append_ow rfl _ _ rfl w1.heap.size N _ _ (le4 p.length) p rfl hO2 rfl hv2 (by rw [le4_len]; omega) hz2 ?_; intro v3 w3 hO3 hg3 hn3; obtain ⟨a3, c3, hv3, -⟩ := hO3.shape; rw [hlen3] at hv3; subst hv3)
    have hB3 : Below w1.heap.size w2 w3 := below_grown hg3 hz2 (fun k e => (World.ownsRow.lt hO2 k e).1)
    have hz3 := hB3.size
    have hv3 := hv2.below (hB3.mono (by omega))
    have hO13 := hO12.kept hg3 hap
    refine (refSum_any w3.heap.size _ (le4 p.length ++ p) w3 (hO3.sl (Nat.le_refl _))).mono ?_
    rintro e w' ⟨rfl, hw⟩
    subst w'
    go_wp2_with fail
    refine (four_any (crc (le4 p.length ++ p)) (crc_lt _) w3).mono ?_
    rintro e w4 ⟨v4, rfl, hO4, hB4⟩
    obtain ⟨a4, c4, rfl, -⟩ := hO4.shape
    rw [le4_len] at hO4 ⊢
    have hz4 := hB4.size
    have hv4 := hv3.below (hB4.mono (by omega))
    have hO14 := hO13.below hB4 (Nat.le_refl _)
    have HB4 : Hid (Below w.heap.size w w4) := (HB2.out.trans (hB3.mono hz1)).trans (hB4.mono (by omega))
    clear hO12 hO13 hO2 hO3 hg3 hn3 hB2 hB3 hB4 hv2 hv3
    have hs4 := hO4.sl (Nat.le_refl w4.heap.size)
    have hlt4 := World.ownsRow.lt hO14
    go_wp2_with (first
      | (at_builtin; refine wpList_append_ow rfl _ _ rfl w.heap.size N _ _ (le4 p.length ++ le4 (crc (le4 p.length ++ p))) p rfl hO5 rfl hv5' (by rw [hlen5]; omega) hz5 ?_; intro v6 w6 hO6 hg6 hn6)
      | (at_builtin; refine wpList_append_ow rfl _ _ rfl w.heap.size w4.heap.size _ _ (le4 p.length) (le4 (crc (le4 p.length ++ p))) rfl hO14 rfl hs4 (by simp [le4_len]) (by omega) ?_; intro v5 w5 hO5 hg5 hn5; obtain ⟨a5, c5, hv5, -⟩ := hO5.shape; rw [hlen5] at hv5; subst hv5; have hB5 := HB4.out.trans (below_grown hg5 (by omega) (fun k e => (hlt4 k e).1)); have hv5' := hv4.below ((below_grown hg5 (by omega) (fun k e => (hlt4 k e).1)).mono hN); have hz5 := hB5.size; have hlt5 := World.ownsRow.lt hO5; clear hg5 hn5))
    go_ret2
    refine ⟨_, rfl, ?_, hB5.trans (below_grown hg6 hz5 (fun k e => (hlt5 k e).1))⟩
    unfold frameB
    simpa [List.append_assoc] using hO6
  · have hE : putE p = 3 := by simp [putE, hp]
    have hB : putB p = [] := by simp [putB, hp]
    rw [hE, hB]
    clear hE hB
    go_enter Tryz.func183, Tryz.ntmps183
    go_wp2
    go_ret2
    exact ⟨_, rfl, Ow.nil _ _, Below.refl _ _⟩
end Go.Proofs.YtnahghldlkjleaaGreatDoor.Fr
namespace Go.Proofs.YtnahghldlkjleaaGreatDoor.Fr
open Go.RowKit Go.Shelf
attribute [local go_sem ↓] Go.wp_at_zero Go.wp_at_succ

/-- The frame at a place. -/
def getAt (b : List UInt8) (i : Int) : List UInt8 × Nat × Nat := if i < 0 ∨ (b.length : Int) < i then ([], 0, 2) else getFront (b.drop i.toNat)

/-- What Get returns. -/
def Got (w w' : World) (e : Ending) (g : List UInt8 × Nat × Nat) : Prop := ∃ v', e = .returned (.tuple #[v', .int .i64 (g.2.1 : Int), .int .i64 (g.2.2 : Int)]) ∧ Ow w.heap.size w' v' g.1 ∧ Below w.heap.size w w'

theorem getAt_off (b : List UInt8) (i : Int) (h : i < 0 ∨ (b.length : Int) - i < 4) : getAt b i = ([], 0, 2) := by
  unfold getAt
  by_cases h1 : i < 0 ∨ (b.length : Int) < i
  · rw [if_pos h1]
  · rw [if_neg h1]
    unfold getFront
    rw [if_pos (by simp; omega)]

theorem below_drew {N : Nat} {w w1 : World} (h : Below N w w1) : Below N w w1.drew := h.trans ⟨rfl, rfl, rfl, Nat.le_refl _, fun _ _ => rfl⟩

/-- Two pieces in a block. -/
theorem sls_two {N B : Nat} {w : World} {u v : Value} {l m : List UInt8} (hb : w.heap[B]? = some (.cells #[u, v] 55)) (hB : B < N) (hu : Sl N w u l) (hv : Sl N w v m) : Sls N w (.slice (some ⟨B, 0, none⟩) 2 2) [l, m] := by
  refine ⟨_, _, rfl, Nat.le_refl _, by unfold maxLen; simp, .inr ⟨B, 0, rfl, hB, fun i hi => ?_⟩⟩
  rcases (by simp at hi; omega : i = 0 ∨ i = 1) with rfl | rfl
  · exact ⟨u, by simp [World.cell?, hb], hu⟩
  · exact ⟨v, by simp [World.cell?, hb], hv⟩

set_option maxRecDepth 100000 in
set_option maxHeartbeats 2000000 in
theorem get_any (N : Nat) (v : Value) (l : List UInt8) (i : Int) (w : World) (hv : Sl N w v l) (hN : N ≤ w.heap.size) (hl : l.length ≤ 1099511627776) (hi : i ≤ 9223372036854775807) :
    Calls Tryz.prog 209 #[v, .int .i64 i] w fun e w' => Got w w' e (getAt l i) := by
  obtain ⟨a, cap, rfl, hlc, hcm, h3⟩ := id hv
  unfold maxLen at hcm
  by_cases h0 : i < 0
  · rw [getAt_off l i (.inl h0)]
    have h0' : decide (i < 0) = true := by simp [h0]
    go_enter Tryz.func209, Tryz.ntmps209
    go_wp2
    go_ret3
    exact ⟨_, rfl, Ow.nil _ _, Below.refl _ _⟩
  · by_cases h4 : (l.length : Int) - i < 4
    · rw [getAt_off l i (.inr h4)]
      have h0' : decide (i < 0) = false := by simp; omega
      go_enter Tryz.func209, Tryz.ntmps209
      go_wp2
      go_ret3
      exact ⟨_, rfl, Ow.nil _ _, Below.refl _ _⟩
    · obtain ⟨k, rfl⟩ := Int.eq_ofNat_of_zero_le (Int.not_lt.1 h0)
      have hkl : k + 4 ≤ l.length := by omega
      have hG : getAt l (k : Int) = getFront (l.drop k) := by unfold getAt; rw [if_neg (by omega)]; simp
      rw [hG]
      clear hG
      have hkc : k ≤ cap := by omega
      obtain ⟨b, off, rfl, -, -⟩ := h3.resolve_left (by intro h; rw [h] at hkl; simp at hkl)
      have hR := hv.cut k l.length (by omega) (Nat.le_refl _) (some ⟨b, off + k, none⟩) (.inr (by simp [Addr.add_lit])) (l.length - k) (cap - k) rfl rfl
      rw [List.take_of_length_le (by simp)] at hR
      have hrl : l.length - k = (l.drop k).length := by simp
      generalize l.drop k = r at *
      have h0' : decide ((k : Int) < 0) = false := by simp
      have h4' : decide ((l.length : Int) - (k : Int) < 4) = false := by simp; omega
      have hkl' : k < l.length := by omega
      have hcm' : cap ≤ 9223372036854775807 := by omega
      have HK : Hid (k + 4 ≤ l.length) := hkl
      have HL : Hid (l.length - k = r.length) := hrl
      clear h3 h0 hv h4 hkl hrl hcm
      go_enter Tryz.func209, Tryz.ntmps209
      go_wp2_with fail
      have hkl := HK.out
      have hrl := HL.out
      rw [hrl] at hR ⊢
      have hrc : r.length ≤ cap - k := by rw [← hrl]; omega
      have hrm : cap - k ≤ 9223372036854775807 := by omega
      have hr4 : 4 ≤ r.length := by rw [← hrl]; omega
      have hrx : r.length ≤ 1099511627776 := by rw [← hrl]; omega
      generalize cap - k = rc at *
      generalize off + k = o at *
      clear hrl h4' HL HK hkl' hkl hkc hi hlc hcm' h0'
      refine (wordOf_any N _ r w hR hr4).mono ?_
      rintro e w' ⟨rfl, hw⟩
      subst w'
      have hwl := word4_lt r
      by_cases h5 : 1048576 < word4 r
      · have HG : Hid (getFront r = ([], 0, 3)) := by unfold Hid getFront; rw [if_neg (by omega), if_pos h5]
        go_wp2
        go_ret3
        rw [HG.out]
        exact ⟨_, rfl, Ow.nil _ _, Below.refl _ _⟩
      · by_cases h6 : r.length < 8 + word4 r
        · have HG : Hid (getFront r = ([], 0, 2)) := by unfold Hid getFront; rw [if_neg (by omega), if_neg h5, if_pos h6]
          go_wp2
          go_ret3
          rw [HG.out]
          exact ⟨_, rfl, Ow.nil _ _, Below.refl _ _⟩
        · have HG : Hid (getFront r = if word4 (r.drop 4) ≠ crc (r.take 4 ++ (r.drop 8).take (word4 r)) then ([], 0, 5) else ((r.drop 8).take (word4 r), 8 + word4 r, 0)) := by unfold Hid getFront; rw [if_neg (by omega), if_neg h5, if_neg h6]
          generalize hn : word4 r = n at *
          clear hwl
          have h6' : 8 + n ≤ r.length := by omega
          have h5' : n ≤ 1048576 := by omega
          clear h5 h6 hn
          have CW : Hid (∀ w2, Below w.heap.size w w2 → Calls Tryz.prog 253 #[.slice (some ⟨b, o + 4, none⟩) (r.length - 4) (rc - 4)] w2 fun e w' => e = .returned (.int .u32 (word4 (r.drop 4) : Int)) ∧ w' = w2) := by
            intro w2 hB
            have := (hR.below (hB.mono hN)).cut 4 r.length (by omega) (Nat.le_refl _) (some ⟨b, o + 4, none⟩) (.inr (by simp [Addr.add_lit])) (r.length - 4) (rc - 4) rfl rfl
            rw [List.take_of_length_le (by simp)] at this
            exact wordOf_any N _ (r.drop 4) w2 this (by simp; omega)
          obtain ⟨a8, h8⟩ : ∃ a8 : Option Addr, (if rc = 8 then some (⟨b, o, none⟩ : Addr) else some ⟨b, o + 8, none⟩) = a8 := ⟨_, rfl⟩
          have ha8 : 8 = 8 + n ∨ a8 = (some (⟨b, o, none⟩ : Addr)).map (fun p => p.add 8) := by
            by_cases h : rc = 8
            · left; omega
            · right; rw [← h8, if_neg h]; simp [Addr.add_lit]
          have hS8 : ∀ w2, Below w.heap.size w w2 → Sl N w2 (.slice a8 n (rc - 8)) ((r.drop 8).take n) := by
            intro w2 hB
            have := (hR.below (hB.mono hN)).cut 8 (8 + n) (by omega) (by omega) a8 ha8 n (rc - 8) (by omega) rfl
            rwa [show 8 + n - 8 = n by omega] at this
          clear ha8
          have CS : Hid (∀ w2, w2.heap[w.heap.size]? = some (.cells #[.slice (some ⟨b, o, none⟩) 4 rc, .slice a8 n (rc - 8)] 55) → Below w.heap.size w w2 → Calls Tryz.prog 254 #[.slice (some ⟨w.heap.size, 0, none⟩) 2 2] w2 fun e w' => e = .returned (.int .u32 (crc (r.take 4 ++ (r.drop 8).take n) : Int)) ∧ w' = w2) := by
            intro w2 hh hB
            have h1 := ((hR.below (hB.mono hN)).cut0 4 hr4).mono (Nat.le_trans hN (Nat.le_succ _))
            have h2 := (hS8 w2 hB).mono (Nat.le_trans hN (Nat.le_succ _))
            have := sumOf_any _ _ _ _ (sls_two hh (Nat.lt_succ_self _) h1 h2)
            simpa using this
          have CF : Hid (∀ w2, Below w.heap.size w w2 → Calls Tryz.prog 255 #[.slice a8 n (rc - 8)] w2 fun e w' => ∃ v', e = .returned v' ∧ Ow w2.heap.size w' v' ((r.drop 8).take n) ∧ Below w2.heap.size w2 w') := by
            intro w2 hB
            exact fresh_any N _ _ w2 (hS8 w2 hB) (by simp; omega)
          clear hS8
          go_upto_region 10 with fail
          go_cut [43] from 33 to 43 (fun s wx => s = .bool ((word4 (r.drop 4) : Int) != (crc (r.take 4 ++ (r.drop 8).take n) : Int)) ∧ Below w.heap.size w wx)
          case first =>
            clear CF HG
            have i1 : (4 : Int) ≤ (r.length : Int) := by omega
            have i2 : (0 : Int) ≤ (n : Int) := by omega
            have i3 : (8 : Int) ≤ 8 + (n : Int) := by omega
            have i4 : 8 + (n : Int) ≤ (rc : Int) := by omega
            have i5 : (4 : Int) ≤ (rc : Int) := by omega
            have i6 : (r.length : Int) ≤ (rc : Int) := by omega
            have h44 : (if rc = 4 then some (⟨b, o, none⟩ : Addr) else some ⟨b, o + 4, none⟩) = some ⟨b, o + 4, none⟩ := by rw [if_neg (by omega)]
            have h99 : (8 + (n : Int)).toNat - 8 = n := by omega
            clear hR
            go_region_held3 (fun _ => True) (trivial) (first
              | (go_at_call 253; (try simp only [h44, h8, h99]); refine (CW.out _ ?hb).mono ?_; (case hb => repeat' first | exact Below.refl _ _ | exact (Below.refl _ w).alloc (Nat.le_refl _) _ | refine below_drew ?_); rintro e w' ⟨rfl, hw⟩; subst w')
              | (go_at_call 254; (try simp only [h44, h8, h99]); refine (CS.out _ ?hh ?hb).mono ?_; (case hh => exact World.alloc_heap_new w _); (case hb => repeat' first | exact Below.refl _ _ | exact (Below.refl _ w).alloc (Nat.le_refl _) _ | refine below_drew ?_); rintro e w' ⟨rfl, hw⟩; subst w'))
            all_goals go_wp2_with fail
            all_goals go_meet
            all_goals (case rel => exact ⟨rfl, below_drew ((Below.refl _ w).alloc (Nat.le_refl _) _)⟩)
          case rest =>
            obtain ⟨rfl, hBx⟩ := hcut
            have hzx := hBx.size
            clear CW CS
            by_cases hs : word4 (r.drop 4) = crc (r.take 4 ++ (r.drop 8).take n)
            · have hd : ((word4 (r.drop 4) : Int) != (crc (r.take 4 ++ (r.drop 8).take n) : Int)) = false := by simp [hs]
              rw [if_neg (by simp [hs])] at HG
              rw [hd]
              clear hd hs
              have CF' := CF.out wc hBx
              have hln : n ≤ r.length := by omega
              by_cases h8r : rc = 8
              · subst h8r
                rw [if_pos rfl] at h8
                subst h8
                obtain rfl : n = 0 := by omega
                go_wp2_with (go_at_call 255; refine CF'.mono ?_; rintro e w5 ⟨v5, rfl, hO5, hB5⟩)
                go_ret3
                rw [HG.out]
                exact ⟨_, rfl, hO5.base hzx, hBx.trans (hB5.mono hzx)⟩
              · rw [if_neg h8r] at h8
                subst h8
                have h8' : 8 < rc := by omega
                go_wp2_with (go_at_call 255; refine CF'.mono ?_; rintro e w5 ⟨v5, rfl, hO5, hB5⟩)
                go_ret3
                rw [HG.out]
                exact ⟨_, rfl, hO5.base hzx, hBx.trans (hB5.mono hzx)⟩
            · have hd : ((word4 (r.drop 4) : Int) != (crc (r.take 4 ++ (r.drop 8).take n) : Int)) = true := by rw [bne_iff_ne]; omega
              rw [if_pos hs] at HG
              rw [hd]
              clear hd hs
              go_wp2
              go_ret3
              rw [HG.out]
              exact ⟨_, rfl, Ow.nil _ _, hBx⟩

/-- The payload of the frame that bytes are. -/
def oneOf (l : List UInt8) : List UInt8 × Nat := if (getAt l 0).2.2 = 0 ∧ (getAt l 0).2.1 < l.length then ([], 4) else ((getAt l 0).1, (getAt l 0).2.2)

end Go.Proofs.YtnahghldlkjleaaGreatDoor.Fr
namespace Go.Proofs.YtnahghldlkjleaaGreatDoor.Fr

theorem getFront_frame (p m : List UInt8) (hp : p.length ≤ 1048576) : getFront (frameB p ++ m) = (p, 8 + p.length, 0) := by
  have hw : word4 (frameB p ++ m) = p.length := by
    unfold frameB
    rw [List.append_assoc]
    exact word4_le4 _ (by omega) _
  have hd4 : (frameB p ++ m).drop 4 = le4 (crc (le4 p.length ++ p)) ++ (p ++ m) := by
    unfold frameB
    rw [List.append_assoc, List.drop_append_of_le_length (by rw [le4_len]; omega), List.drop_of_length_le (by rw [le4_len]; omega), List.nil_append, List.append_assoc]
  have hd8 : (frameB p ++ m).drop 8 = p ++ m := by
    rw [show (8 : Nat) = 4 + 4 from rfl, ← List.drop_drop, hd4, List.drop_append_of_le_length (by rw [le4_len]; omega), List.drop_of_length_le (by rw [le4_len]; omega), List.nil_append]
  have ht4 : (frameB p ++ m).take 4 = le4 p.length := by
    unfold frameB
    rw [List.append_assoc, List.take_append_of_le_length (by rw [le4_len]; omega), List.take_of_length_le (by rw [le4_len]; omega)]
  have hlen : (frameB p ++ m).length = 8 + p.length + m.length := by rw [List.length_append, frameB_len]
  unfold getFront
  rw [hw, hd4, hd8, ht4, hlen, word4_le4 _ (crc_lt _), List.take_left]
  rw [if_neg (by omega), if_neg (by omega), if_neg (by omega), if_neg (by simp)]

theorem oneOf_frame (p : List UInt8) (hp : p.length ≤ 1048576) : oneOf (frameB p) = (p, 0) := by
  have h : getAt (frameB p) 0 = (p, 8 + p.length, 0) := by
    unfold getAt
    rw [if_neg (by omega)]
    have := getFront_frame p [] hp
    simpa using this
  unfold oneOf
  rw [h]
  simp only
  rw [if_neg (by rw [frameB_len]; omega)]

theorem oneOf_nil : oneOf [] = ([], 2) := by decide +kernel

end Go.Proofs.YtnahghldlkjleaaGreatDoor.Fr
