/-
  The sequence of the whole frames: frame's frames.
-/
import Derived.Test.YthhnjiodfbckcaaRange
namespace Go.Proofs.Ythhnjiodfbckcaa
open Go.RowKit Go.Shelf
attribute [local go_sem] Oper.semAt_some

/-- The frames from a place on: their places and payloads; f: how many at most. -/
def framesFrom : Nat → List UInt8 → Nat → List (Nat × List UInt8)
  | 0, _, _ => []
  | f + 1, b, k => if (getAt b (k : Int)).2.2 = 0 then (k, (getAt b (k : Int)).1) :: framesFrom f b (k + (getAt b (k : Int)).2.1) else []

/-- Where they end. -/
def endFrom : Nat → List UInt8 → Nat → Nat
  | 0, _, k => k
  | f + 1, b, k => if (getAt b (k : Int)).2.2 = 0 then endFrom f b (k + (getAt b (k : Int)).2.1) else k

def framesOf (b : List UInt8) : List (Nat × List UInt8) := framesFrom (b.length + 1) b 0
def endOf (b : List UInt8) : Nat := endFrom (b.length + 1) b 0

theorem getAt_ok (b : List UInt8) (k : Nat) (h : (getAt b (k : Int)).2.2 = 0) : (getAt b (k : Int)).2.1 = 8 + (getAt b (k : Int)).1.length ∧ k + (getAt b (k : Int)).2.1 ≤ b.length := by
  unfold getAt at h ⊢
  by_cases h1 : (k : Int) < 0 ∨ (b.length : Int) < (k : Int)
  · rw [if_pos h1] at h; simp at h
  · rw [if_neg h1] at h ⊢
    rw [Int.toNat_natCast] at h ⊢
    unfold getFront at h ⊢
    by_cases h2 : (b.drop k).length < 4
    · rw [if_pos h2] at h; simp at h
    · rw [if_neg h2] at h ⊢
      by_cases h3 : 1048576 < word4 (b.drop k)
      · rw [if_pos h3] at h; simp at h
      · rw [if_neg h3] at h ⊢
        by_cases h4 : (b.drop k).length < 8 + word4 (b.drop k)
        · rw [if_pos h4] at h; simp at h
        · rw [if_neg h4] at h ⊢
          by_cases h5 : word4 ((b.drop k).drop 4) ≠ crc ((b.drop k).take 4 ++ ((b.drop k).drop 8).take (word4 (b.drop k)))
          · rw [if_pos h5] at h; simp at h
          · rw [if_neg h5]
            simp only [List.length_take, List.length_drop] at *
            omega

theorem framesFrom_len : ∀ (f : Nat) (b : List UInt8) (k : Nat), (framesFrom f b k).length ≤ b.length - k
  | 0, b, k => by simp [framesFrom]
  | f + 1, b, k => by
    simp only [framesFrom]
    split
    · rename_i h
      have := getAt_ok b k h
      have ih := framesFrom_len f b (k + (getAt b (k : Int)).2.1)
      simp only [List.length_cons]
      omega
    · simp

/-- A frame as it is yielded: its place, its payload, and where that lies. -/
structure FrD where
  place : Nat
  pay : List UInt8
  a : Option Addr
  cap : Nat

def FrD.v (x : FrD) : Value := .slice x.a x.pay.length x.cap
def FrD.key (x : FrD) : Nat × List UInt8 := (x.place, x.pay)
def encF (x : FrD) : Array Value := #[.int .i64 (x.place : Int), x.v]

/-- What a round keeps: all below n₀, and the box Bb. -/
def KeepB (n₀ Bb : Nat) (vb : Value) (W W' : World) : Prop := Below n₀ W W' ∧ (Boxed W Bb 22 vb → Boxed W' Bb 22 vb)

set_option maxRecDepth 100000 in
set_option maxHeartbeats 2000000 in
theorem frames1_in (n : Nat) (hn : 1 ≤ n) (l Bb n₀ : Nat) (vb : Value) (b : List UInt8) (hbl : b.length ≤ 1099511627776) (J Jx : List FrD → World → Prop)
    (hJ : ∀ s A B, J s A → Below A.heap.size A B → J s B)
    (hY : ∀ pre x W0 W1, J pre W0 → Below W0.heap.size W0 W1 → (Ow W0.heap.size W1 x.v x.pay ∧ (pre ++ [x]).map FrD.key <+: framesOf b) → pre.length < (framesOf b).length → YieldAt Fence.wide (n - 1) Try.prog l (encF x) W1 fun e W' =>
      (e = .returned (.bool true) ∧ J (pre ++ [x]) W' ∧ KeepB n₀ Bb vb W1 W') ∨ (e = .returned (.bool false) ∧ Jx (pre ++ [x]) W'))
    (W : World) (hn₀ : n₀ ≤ W.heap.size) (hbox : Boxed W Bb 22 vb) (hs : Sl n₀ W vb b) (h0 : J [] W) :
    CallsIn Fence.wide n Try.prog 42 #[.func (.yield l) #[] #[], .pointer (some ⟨Bb, 0, none⟩)] W fun e W' => (∃ v, e = .returned v) ∧
      ((∃ xs, xs.map FrD.key = framesOf b ∧ J xs W') ∨ (∃ pre, pre.map FrD.key <+: framesOf b ∧ Jx pre W')) := by
  refine callsIn_of_wp Try.func42 rfl trivial ?_ rfl
  simp only [Try.ntmps42, List.size_toArray, List.length_cons, List.length_nil, Nat.reduceAdd, Nat.reduceSub, Array.replicate_succ, Array.replicate_zero, List.push_toArray, List.append_toArray, List.nil_append, List.cons_append]
  have HSt : Hid (Below n₀ W W) := Below.refl _ _
  gi_wp2
  gi_loopw [3] (fun p wr => ∃ (f k : Nat) (pre : List FrD), p = .int .i64 (k : Int) ∧ k ≤ b.length ∧ b.length - k < f ∧ pre.map FrD.key ++ framesFrom f b k = framesOf b ∧ J pre wr ∧ Boxed wr Bb 22 vb ∧ Below n₀ W wr)
    (fun p _ => b.length - (intOf p).toNat)
  case atStart => exact ⟨b.length + 1, 0, [], rfl, by omega, by omega, rfl, h0, hbox, Below.refl _ _⟩
  case round =>
    obtain ⟨f, k, pre, rfl, hk, hf, hx, hJs, hbx, hBl⟩ := hrel
    obtain ⟨f, rfl⟩ : ∃ f', f = f' + 1 := ⟨f - 1, by omega⟩
    have hz := hBl.size
    have hc := hbx.cell
    have hsl := hs.below hBl
    have hgo := getAt_ok b k
    have hgx : framesFrom (f + 1) b k = if (getAt b (k : Int)).2.2 = 0 then (k, (getAt b (k : Int)).1) :: framesFrom f b (k + (getAt b (k : Int)).2.1) else [] := rfl
    have CG := get_any n₀ vb b (k : Int) wr hsl (by omega) hbl (by omega)
    rw [hgx] at hx
    generalize getAt b (k : Int) = g at *
    obtain ⟨p, m, e⟩ := g
    simp only at hgo hx CG
    obtain ⟨va, vc, rfl, -⟩ := id hs
    have HX : Hid (pre.map FrD.key ++ (if e = 0 then (k, p) :: framesFrom f b (k + m) else []) = framesOf b) := hx
    clear hx hgx hsl
    have HB : Hid (Below n₀ W wr) := hBl
    have HBX : Hid (Boxed wr Bb 22 (.slice va b.length vc)) := hbx
    have HJ : Hid (J pre wr) := hJs
    clear hBl hbx hJs h0 hbox hs
    by_cases he : e = 0
    · subst he
      obtain ⟨hm, hkm⟩ := hgo rfl
      have hx2 := HX.out
      rw [if_pos rfl] at hx2
      have hlen : pre.length < (framesOf b).length := by rw [← hx2]; simp
      have HYY : Hid (∀ w1 a1 c1, Ow wr.heap.size w1 (.slice a1 p.length c1) p → Below wr.heap.size wr w1 → YieldAt Fence.wide (n - 1) Try.prog l #[.int .i64 (k : Int), .slice a1 p.length c1] w1 fun e W' =>
          (e = .returned (.bool true) ∧ J (pre ++ [⟨k, p, a1, c1⟩]) W' ∧ Boxed W' Bb 22 (.slice va b.length vc) ∧ Below n₀ W W') ∨ (e = .returned (.bool false) ∧ Jx (pre ++ [⟨k, p, a1, c1⟩]) W')) := by
        intro w1 a1 c1 hO hB
        have h1 := hY pre ⟨k, p, a1, c1⟩ wr w1 HJ.out hB ⟨hO, ⟨framesFrom f b (k + m), by rw [← hx2]; simp [FrD.key]⟩⟩ hlen
        refine h1.mono ?_
        rintro e w (⟨h2, h3, h4⟩ | h2)
        · exact .inl ⟨h2, h3, h4.2 (HBX.out.kept (Below.grownBy' hB none) (by simp)), HB.out.trans ((hB.mono (by omega)).trans h4.1)⟩
        · exact .inr h2
      have HKEY : Hid ((pre.map FrD.key ++ [(k, p)]) ++ framesFrom f b (k + m) = framesOf b) := by unfold Hid; rw [← hx2]; simp
      have HF : Hid (b.length - (k + m) < f) := by unfold Hid; omega
      clear HX hx2 hgo hY hlen HBX HJ HB
      gi_wp2_with (refine ⟨trivial, ?_⟩; gi_at_call 18; refine (callsIn_wide.2 CG).mono ?_; rintro r w1 ⟨v1, rfl, hO1, hB1⟩; obtain ⟨a1, c1, rfl, -⟩ := hO1.shape; obtain ⟨fn, tmps, assign, body, hy, hR⟩ := HYY.out w1 a1 c1 hO1 hB1; clear hO1 hB1)
      refine hR.mono ?_
      rintro e W3 (⟨rfl, hJ3, hb3, hB3⟩ | ⟨rfl, hJx3⟩)
      · clear hy hR CG
        gi_wp2
        go_roundw
        case rel => exact ⟨f, k + m, _, by go_num, hkm, HF.out, by rw [List.map_append]; exact HKEY.out, hJ3, hb3, hB3⟩
        case measure => simp [intOf]; omega
      · clear hy hR CG
        gi_wp2
        refine bodyPost_ret (results_none rfl _ _ _) rfl ?_
        refine ⟨⟨_, rfl⟩, .inr ⟨_, ?_, hJx3⟩⟩
        rw [List.map_append]
        exact ⟨_, HKEY.out⟩
    · have he' : ((e : Int) != 0) = true := by rw [bne_iff_ne]; omega
      have HE : Hid (pre.map FrD.key = framesOf b) := by
        have := HX.out
        rw [if_neg he, List.append_nil] at this
        exact this
      clear HX hgo hY HBX HB
      gi_wp2_with (refine ⟨trivial, ?_⟩; gi_at_call 18; refine (callsIn_wide.2 CG).mono ?_; rintro r w1 ⟨v1, rfl, hO1, hB1⟩)
      refine ⟨(fun f h => by cases h), ?_⟩
      gi_wp2
      refine bodyPost_ret (results_none rfl _ _ _) rfl ?_
      exact ⟨⟨_, rfl⟩, .inl ⟨_, HE.out, hJ _ _ _ HJ.out hB1⟩⟩

set_option maxHeartbeats 1000000 in
/-- frame.frames: the function that yields them, over a box of its own. -/
theorem frames_any (a : Option Addr) (len cap : Nat) (w : World) : Calls Try.prog 38 #[.slice a len cap] w fun e w' => e = .returned (.func (.func 42) #[] #[.pointer (some ⟨w.heap.size, 0, none⟩)]) ∧ w' = w.alloc (.cells #[.slice a len cap] 22) := by
  go_enter Try.func38, Try.ntmps38
  go_wp2
  go_ret
  exact ⟨rfl, rfl⟩

theorem frames_yields (n : Nat) (hn : 1 ≤ n) (Bb n₀ : Nat) (vb : Value) (b : List UInt8) (hbl : b.length ≤ 1099511627776) (w : World) (hn₀ : n₀ ≤ w.heap.size) (hbox : Boxed w Bb 22 vb) (hs : Sl n₀ w vb b) :
    Yields n 42 #[.pointer (some ⟨Bb, 0, none⟩)] encF (fun pre x m W => Ow m W x.v x.pay ∧ (pre ++ [x]).map FrD.key <+: framesOf b) (KeepB n₀ Bb vb) (fun xs => xs.map FrD.key = framesOf b) (fun pre => pre.map FrD.key <+: framesOf b) (framesOf b).length w :=
  fun l J Jx W hW hJ _ hY h0 => frames1_in n hn l Bb n₀ vb b hbl J Jx hJ hY W (Nat.le_trans hn₀ hW.size) (hbox.kept (Below.grownBy' hW none) (by simp)) (hs.below (hW.mono hn₀)) h0

theorem framesFrom_in : ∀ (f : Nat) (b : List UInt8) (k : Nat), ∀ q ∈ framesFrom f b k, q.1 + 8 + q.2.length ≤ b.length
  | 0, b, k => by simp [framesFrom]
  | f + 1, b, k => by
    simp only [framesFrom]
    split
    · rename_i h
      have := getAt_ok b k h
      intro q hq
      rcases List.mem_cons.1 hq with rfl | hq
      · simp only; omega
      · exact framesFrom_in f b _ q hq
    · simp

theorem endFrom_eq : ∀ (f : Nat) (b : List UInt8) (k : Nat), endFrom f b k = ((framesFrom f b k).getLast?.map (fun q => q.1 + 8 + q.2.length)).getD k
  | 0, b, k => by simp [framesFrom, endFrom]
  | f + 1, b, k => by
    simp only [framesFrom, endFrom]
    split
    · rename_i h
      have h1 := getAt_ok b k h
      rw [endFrom_eq f b]
      rw [List.getLast?_cons]
      cases hl : (framesFrom f b (k + (getAt b (k : Int)).2.1)).getLast? with
      | none => simp; omega
      | some q => simp
    · simp

theorem endFrom_le : ∀ (f : Nat) (b : List UInt8) (k : Nat), k ≤ b.length → endFrom f b k ≤ b.length
  | 0, b, k, h => h
  | f + 1, b, k, h => by
    simp only [endFrom]
    split
    · rename_i h1
      have := getAt_ok b k h1
      exact endFrom_le f b _ (by omega)
    · exact h

theorem endOf_le (b : List UInt8) : endOf b ≤ b.length := endFrom_le _ b 0 (by omega)

/-- Where the frames that have come end. -/
def lastEnd (pre : List FrD) : Nat := ((pre.map FrD.key).getLast?.map (fun q => q.1 + 8 + q.2.length)).getD 0

theorem lastEnd_snoc (pre : List FrD) (x : FrD) : lastEnd (pre ++ [x]) = x.place + 8 + x.pay.length := by simp [lastEnd, FrD.key]

theorem lastEnd_all (pre : List FrD) (b : List UInt8) (h : pre.map FrD.key = framesOf b) : lastEnd pre = endOf b := by
  unfold lastEnd endOf; rw [h, endFrom_eq]; rfl

theorem framesOf_len (b : List UInt8) : (framesOf b).length ≤ b.length := by have := framesFrom_len (b.length + 1) b 0; unfold framesOf; omega
theorem framesOf_in (b : List UInt8) : ∀ q ∈ framesOf b, q.1 + 8 + q.2.length ≤ b.length := framesFrom_in _ b 0
end Go.Proofs.Ythhnjiodfbckcaa
