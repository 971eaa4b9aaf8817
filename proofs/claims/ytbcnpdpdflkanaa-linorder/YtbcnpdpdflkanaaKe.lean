/-
  keeps.
-/
import Derived.Test.YtbcnpdpdflkanaaAh
namespace Go.Proofs.Ytbcnpdpdflkanaa
open Go.RowKit

/-- What was seen, as a row of numbers. -/
def seenL (n : Nat) (S : List Nat) : List Nat := (List.range n).map fun i => if S.contains i then 1 else 0
theorem seenL_len (n : Nat) (S : List Nat) : (seenL n S).length = n := by simp [seenL]
theorem seenL_at {n : Nat} (S : List Nat) {i : Nat} (hi : i < n) : (seenL n S).getD i 0 = if S.contains i then 1 else 0 := by
  unfold seenL
  rw [List.getD_eq_getElem?_getD, List.getElem?_map, List.getElem?_range hi]; rfl
theorem seenL_nil (n : Nat) : seenL n [] = List.replicate n 0 := by
  unfold seenL
  apply List.ext_getElem (by simp)
  intro i h1 h2
  simp
theorem seenL_set {n : Nat} (S : List Nat) {i : Nat} (hi : i < n) : ((seenL n S).map encI).set i (.int .i64 1) = (seenL n (i :: S)).map encI := by
  apply List.ext_getElem?
  intro j
  rw [List.getElem?_set]
  simp only [List.length_map, seenL_len]
  by_cases e : i = j
  · subst e
    rw [if_pos rfl, if_pos hi]
    unfold seenL
    simp [List.getElem?_map, List.getElem?_range hi, encI]
  · rw [if_neg e]
    unfold seenL
    rw [List.getElem?_map, List.getElem?_map, List.getElem?_map, List.getElem?_map]
    by_cases hj : j < n
    · rw [List.getElem?_range hj]
      have : (i :: S).contains j = S.contains j := by
        simp [Ne.symm e]
      simp only [Option.map_some, this]
    · rw [List.getElem?_eq_none (by simpa using hj)]; rfl
theorem made_zero (n : Nat) : (madeCells (Value.int .i64 0).cells (n * 1)).toList = (seenL n []).map encI := by
  rw [seenL_nil, Nat.mul_one]
  apply List.ext_getElem?
  intro j
  unfold madeCells
  by_cases hj : j < n
  · simp [encI, Value.cells, hj, Nat.mod_one]
  · simp [encI, Value.cells, hj]

theorem path_short {ops : List Lo} : ∀ {p : List Nat} {D : Nat → Bool} {th : Bool} {v : Bs}, Path ops D th v p → p.length ≤ left ops.length D
  | [], _, _, _, _ => by simp
  | j :: q, D, th, v, hp => by
    have h1 := path_short hp.2.2
    have h2 := left_upd (nextB_not hp.2.1) ops.length hp.1
    simp only [List.length_cons]
    omega
theorem below_drew {B n : Nat} {a w : World} (h : Below B a w) : Below B a (w.drewN n) := ⟨h.os, h.tape, h.output, h.size, h.block⟩
theorem all_drop_false {l : List Int} {k j : Nat} {f : Int → Bool} (hj : j < l.length) (hk : k ≤ j) (hf : f (l.getD j 0) = false) : (l.drop k).all f = false := by
  rw [List.all_eq_false]
  refine ⟨l.getD j 0, ?_, by rw [hf]; simp⟩
  rw [List.getD_eq_getElem?_getD, List.getElem?_eq_getElem hj]
  rw [List.mem_drop_iff_getElem]
  exact ⟨j - k, by omega, by simp [show k + (j - k) = j by omega]⟩
theorem all_drop_true {l : List Int} {k : Nat} {f : Int → Bool} (hf : ∀ q, k ≤ q → q < l.length → f (l.getD q 0) = true) : (l.drop k).all f = true := by
  rw [List.all_eq_true]
  intro x hx
  rw [List.mem_drop_iff_getElem] at hx
  obtain ⟨q, hq, rfl⟩ := hx
  have := hf (k + q) (by omega) (by omega)
  rw [List.getD_eq_getElem?_getD, List.getElem?_eq_getElem (by omega)] at this
  exact this

set_option maxRecDepth 100000 in
set_option maxHeartbeats 8000000 in
theorem keeps_any (N : Nat) (w : World) (a : Option Addr) (cap : Nat) (h : List Lo) (key : Bs) (la : Option Addr) (lc : Nat) (l : List Int) (hN : N ≤ w.heap.size) (hA : HAt N w a h) (hL : ZAt N w la l) (hl : h.length ≤ 1000) (hll : l.length ≤ 1000) :
    Calls Try.prog 26 #[.slice a h.length cap, str key, .slice la l.length lc] w fun e w' => e = .returned (.bool (kp h key [] false [] l)) ∧ Below w.heap.size w w' := by
  obtain ⟨i0, hi0, hiz, his, hib⟩ := info_parts tyI.inf
  unfold str
  go_enter Try.func26, Try.ntmps26
  go_wp2_with (first
    | (at_make; refine wpList_make_full _ rfl _ _ 39 rfl w.heap.size 3 i0 (.int .i64 0) 1 Try.underlying39 hi0 hiz his .i64 .i64 _ _ h.length rfl rfl rfl rfl (by rw [hib]; omega) (by unfold maxLen; omega) (Nat.le_refl _) ?_; intro w3 hown3 hg3))
  rw [made_zero] at hown3
  have hB3 : Below w.heap.size w w3 := (Below.refl _ w).grown hg3 (Nat.le_refl _) (fun q hq => by cases hq)
  clear hg3
  try go_frame
  go_loopw [10, 8, 9] (fun i tv vv wr => ∃ (k : Nat) (S : List Nat) (th : Bool) (v : Bs), i = .int .i64 k ∧ k ≤ l.length ∧ tv = .bool th ∧ vv = .string ⟨v.toArray⟩ ∧ wr.ownsRow w.heap.size 3 1 (.slice (some ⟨w.heap.size, 0, none⟩) h.length h.length) h.length ((seenL h.length S).map encI) ∧ Below w.heap.size w wr ∧ kp h key [] false [] l = kp h key S th v (l.drop k)) (fun i _ _ _ => l.length - (intOf i).toNat)
  case atStart => exact ⟨0, [], false, [], rfl, by omega, rfl, rfl, hown3, hB3, by simp⟩
  case round =>
    obtain ⟨k, S, th, v, rfl, hk, rfl, rfl, hrow, hB, hkp⟩ := hrel
    have hz := hB.size
    by_cases hlt : k < l.length
    · obtain ⟨lb, lo, rfl, hlb, hlc⟩ := (hL.below (hB.mono hN)).at hlt
      rw [drop_z hlt] at hkp
      have HKP : Hid (kp h key [] false [] l = kp h key S th v (l.getD k 0 :: l.drop (k + 1))) := hkp
      clear hkp
      have HFALSE : Hid (fits h key S (l.getD k 0) = false → kp h key [] false [] l = false) := fun hf => by
        rw [HKP.out]
        show (_ && _) = false
        rw [hf]; rfl
      generalize hnn : l.getD k 0 = n at *
      have HROW : Hid (wr.ownsRow w.heap.size 3 1 (.slice (some ⟨w.heap.size, 0, none⟩) h.length h.length) h.length ((seenL h.length S).map encI)) := hrow
      clear hrow hnn
      by_cases q1 : n < 0
      · have HF0 : Hid (kp h key [] false [] l = false) := HFALSE.out (by unfold fits inR; simp; omega)
        go_wp2
        go_ret
        exact ⟨by rw [HF0.out]; rfl, hB⟩
      by_cases q2 : (h.length : Int) ≤ n
      · have HF0 : Hid (kp h key [] false [] l = false) := HFALSE.out (by unfold fits inR; simp; omega)
        go_wp2
        go_ret
        exact ⟨by rw [HF0.out]; rfl, hB⟩
      obtain ⟨i, rfl⟩ := Int.eq_ofNat_of_zero_le (show 0 ≤ n by omega)
      have hi : i < h.length := by omega
      have hsc := (row_cell HROW.out (j := i) (by omega)).1
      rw [show ((seenL h.length S).map encI).getD i undef = .int .i64 (((if S.contains i then 1 else 0 : Nat)) : Int) from by
        rw [List.getD_eq_getElem?_getD, List.getElem?_map, List.getElem?_eq_getElem (by rw [seenL_len]; exact hi)]
        have := seenL_at S hi
        rw [List.getD_eq_getElem?_getD, List.getElem?_eq_getElem (by rw [seenL_len]; exact hi)] at this
        simp only [Option.getD_some] at this
        show encI _ = _
        rw [this]; rfl] at hsc
      have hsf := (row_cell HROW.out (j := i) (by omega)).2
      by_cases q3 : S.contains i = true
      · have HF0 : Hid (kp h key [] false [] l = false) := HFALSE.out (by unfold fits; simp only [Int.toNat_natCast, q3]; simp)
        rw [if_pos q3] at hsc
        go_wp2
        go_ret
        exact ⟨by rw [HF0.out]; rfl, hB⟩
      rw [if_neg q3] at hsc
      have q3' : S.contains i = false := by simpa using q3
      clear q3
      obtain ⟨b, off, rfl, hb, hcs⟩ := (hA.below (hB.mono hN)).at hi
      have HX := counts_any (oat h i)
      have HST := step_any th v (oat h i)
      have hzat : zat h (i : Int) = oat h i := rfl
      have hmine : mine h key i = (decide ((oat h i).key = key) && (oat h i).counts) := rfl
      have HFT : Hid (decide ((oat h i).key = key) = true → (oat h i).counts = true → fits h key S (i : Int) = true) := fun e1 e2 => by
        unfold fits inR
        simp only [Int.toNat_natCast, hmine, e1, e2, q3']
        simp; omega
      have HFF : Hid ((decide ((oat h i).key = key) && (oat h i).counts) = false → kp h key [] false [] l = false) := fun e => HFALSE.out (by
        unfold fits
        simp only [Int.toNat_natCast, hmine, e]
        simp)
      have HNX : Hid (fits h key S (i : Int) = true → ((l.drop (k + 1)).all (fun m => !late h (i : Int) m) = false → kp h key [] false [] l = false) ∧ ((l.drop (k + 1)).all (fun m => !late h (i : Int) m) = true → (okB th v (oat h i) = false → kp h key [] false [] l = false) ∧ (okB th v (oat h i) = true → kp h key [] false [] l = kp h key (i :: S) (step th v (oat h i)).1 (step th v (oat h i)).2.1 (l.drop (k + 1))))) := fun hf => by
        have he : kp h key [] false [] l = (fits h key S (i : Int) && ((l.drop (k + 1)).all (fun m => !late h (i : Int) m) && (okB th v (oat h i) && kp h key (i :: S) (step th v (oat h i)).1 (step th v (oat h i)).2.1 (l.drop (k + 1))))) := by rw [HKP.out]; rfl
        rw [he, hf]
        refine ⟨fun e => by rw [e]; rfl, fun e => ?_⟩
        rw [e]
        exact ⟨fun e2 => by rw [e2]; rfl, fun e2 => by rw [e2]; rfl⟩
      have HLT : Hid (∀ m, late h (i : Int) m = (inR h m && (decide ((zat h m).back ≠ 0) && decide ((zat h m).back < (oat h i).call)))) := fun m => rfl
      clear hmine hzat HFALSE HKP
      generalize hxe : oat h i = x at *
      have HXE : Hid (oat h i = x) := hxe
      clear hxe
      obtain ⟨c0, c1, c2, c3, c4, c5, c6, c7, c8, c9⟩ := hcs
      unfold Lo.v at HST
      unfold Lo.v Lo.box Lo.cells at HX
      unfold str at HX HST c3 c4 c5 c9
      have q2' : ¬ (h.length : Int) ≤ (i : Int) := q2
      by_cases q4 : x.key = key
      · have q4b : (x.key == key) = true := by simpa using q4
        by_cases q5 : x.counts = true
        · have hfit := HFT.out (by simpa using q4) q5
          obtain ⟨hn1, hn2⟩ := HNX.out hfit
          have HN1 : Hid (_ → _) := hn1
          have HN2 : Hid (_ → _ ∧ _) := hn2
          rw [q5] at HX
          clear q4 q5 hn1 hn2 hfit HNX HFT HFF
          have hsz : w.heap.size < wr.heap.size := by obtain ⟨g, hg, -, hgl⟩ := row_ptr HROW.out (by omega); cases hg; exact hgl
          obtain ⟨-, qa2, qa3⟩ := past2 hsz
          have HWF : Hid (∀ o1 o2 : Obj, (((wr.setCell ⟨w.heap.size, i, none⟩ (.int .i64 1)).alloc o1).alloc o2).ownsRow w.heap.size 3 1 (.slice (some ⟨w.heap.size, 0, none⟩) h.length h.length) h.length ((seenL h.length (i :: S)).map encI) ∧ Below w.heap.size w (((wr.setCell ⟨w.heap.size, i, none⟩ (.int .i64 1)).alloc o1).alloc o2)) := fun o1 o2 => by
            refine ⟨?_, ((hB.setCell (p := ⟨w.heap.size, i, none⟩) (Nat.le_refl _) _).alloc (by rw [size_set]; exact hz) _).alloc (by simp only [World.size_alloc]; rw [size_set]; omega) _⟩
            rw [← seenL_set S hi]
            exact World.ownsRow.alloc (World.ownsRow.alloc (row_store HROW.out i _) _) _
          go_wp2_with (first
            | (go_at_call 16; refine (HX _).mono ?_; rintro e w5 ⟨rfl, rfl⟩))
          obtain ⟨hrow6, hB6⟩ := HWF.out (.cells #[.int .i64 x.cl, .int .i64 x.sq, .int .i64 x.kind, .string ⟨x.key.toArray⟩, .string ⟨x.val.toArray⟩, .string ⟨x.old.toArray⟩, .int .i64 x.call, .int .i64 x.back, .int .i64 x.rp.code, .string ⟨x.rp.val.toArray⟩] 35) (.cells #[.int .i64 x.cl, .int .i64 x.sq, .int .i64 x.kind, .string ⟨x.key.toArray⟩, .string ⟨x.val.toArray⟩, .string ⟨x.old.toArray⟩, .int .i64 x.call, .int .i64 x.back, .int .i64 x.rp.code, .string ⟨x.rp.val.toArray⟩] 35)
          clear HWF qa2 qa3 hsc hsf HX c0 c1 c2 c3 c4 c5 c6 c7 c8 c9 hlc
          generalize hw6 : (((wr.setCell _ _).alloc _).alloc _) = w6 at *
          clear hw6
          have HROW6 : Hid (w6.ownsRow _ _ _ _ _ _) := hrow6
          clear hrow6 HROW
          have hA6 := hA.below (hB6.mono hN)
          have hL6 := hL.below (hB6.mono hN)
          go_loopw [12] (fun jv wq => ∃ (j n : Nat), jv = .int .i64 j ∧ k + 1 ≤ j ∧ j ≤ l.length ∧ (∀ q, k < q → q < j → late h (i : Int) (l.getD q 0) = false) ∧ wq = w6.drewN n) (fun jv _ => l.length - (intOf jv).toNat)
          case atStart => exact ⟨k + 1, 0, by simp, by omega, by omega, fun q h1 h2 => by omega, rfl⟩
          case round =>
            obtain ⟨j, nn, rfl, hj1, hj2, hlate, rfl⟩ := hrel
            by_cases hjl : j < l.length
            · obtain ⟨lb', lo', hle, -, hmc⟩ := hL6.at hjl
              cases hle
              obtain ⟨b', off', hbe, -, hic⟩ := hA6.at hi
              cases hbe
              rw [HXE.out] at hic
              obtain ⟨-, -, -, -, -, -, e6, -, -, -⟩ := hic
              have HLTE := HLT.out (l.getD j 0)
              have HLA : Hid (∀ q, k < q → q < j → late h (i : Int) (l.getD q 0) = false) := hlate
              have HNEXT : Hid (late h (i : Int) (l.getD j 0) = false → ∀ q, k < q → q < j + 1 → late h (i : Int) (l.getD q 0) = false) := fun hf q h1 h2 => by
                by_cases e : q = j
                · rw [e]; exact hf
                · exact HLA.out q h1 (by omega)
              have HBAD : Hid (late h (i : Int) (l.getD j 0) = true → kp h key [] false [] l = false) := fun hf => HN1.out (all_drop_false hjl (by omega) (by rw [hf]; rfl))
              clear hlate
              generalize l.getD j 0 = m at *
              by_cases r1 : m < 0
              · have hf := HNEXT.out (by rw [HLTE]; unfold inR; simp; omega)
                have g1 : decide (0 ≤ m) = false := decide_eq_false (by omega)
                have HNX2 : Hid (∀ q, _ → _ → _) := hf
                clear hf HLTE
                go_wp2
                go_quiet (fail)
                go_wp2
                exact ⟨⟨j + 1, _, by simp, by omega, by omega, HNX2.out, rfl⟩, by simp [intOf]; omega⟩
              by_cases r2 : (h.length : Int) ≤ m
              · have g1 : decide (0 ≤ m) = true := decide_eq_true (by omega)
                have g2 : decide (m < (h.length : Int)) = false := decide_eq_false (by omega)
                have hf := HNEXT.out (by rw [HLTE]; unfold inR; simp; omega)
                have HNX2 : Hid (∀ q, _ → _ → _) := hf
                clear hf HLTE
                go_wp2
                go_quiet (fail)
                go_wp2
                exact ⟨⟨j + 1, _, by simp, by omega, by omega, HNX2.out, rfl⟩, by simp [intOf]; omega⟩
              obtain ⟨mi, rfl⟩ := Int.eq_ofNat_of_zero_le (show 0 ≤ m by omega)
              have hmi : mi < h.length := by omega
              obtain ⟨b', off', hbe, -, hyc⟩ := hA6.at hmi
              cases hbe
              obtain ⟨-, -, -, -, -, -, -, e7, -, -⟩ := hyc
              have hzm : zat h ((mi : Nat) : Int) = oat h mi := rfl
              rw [hzm] at HLTE
              generalize (oat h mi).back = yb at *
              by_cases r3 : yb = 0
              · have hf := HNEXT.out (by rw [HLTE, r3]; simp)
                have HNX2 : Hid (∀ q, _ → _ → _) := hf
                subst r3
                clear hf HLTE
                go_wp2
                go_quiet (fail)
                go_wp2
                exact ⟨⟨j + 1, _, by simp, by omega, by omega, HNX2.out, rfl⟩, by simp [intOf]; omega⟩
              have r3b : (yb != 0) = true := by simpa using r3
              by_cases r4 : yb < x.call
              · have HF0 : Hid (kp h key [] false [] l = false) := HBAD.out (by rw [HLTE]; unfold inR; simp [r3, r4]; omega)
                clear HLTE
                go_wp2
                go_quiet (fail)
                go_wp2
                go_ret
                exact ⟨by rw [HF0.out]; rfl, ⟨hB6.os, hB6.tape, hB6.output, hB6.size, hB6.block⟩⟩
              · have hf := HNEXT.out (by rw [HLTE]; simp [r4])
                have HNX2 : Hid (∀ q, _ → _ → _) := hf
                clear hf HLTE
                go_wp2
                go_quiet (fail)
                go_wp2
                exact ⟨⟨j + 1, _, by simp, by omega, by omega, HNX2.out, rfl⟩, by simp [intOf]; omega⟩
            · have hall := all_drop_true (k := k + 1) (f := fun m => !late h (i : Int) m) (l := l) (fun q h1 h2 => by show (!late h (i : Int) (l.getD q 0)) = true; rw [hlate q (by omega) (by omega)]; rfl)
              obtain ⟨hn3, hn4⟩ := HN2.out hall
              have HN3 : Hid (_ → _) := hn3
              have HN4 : Hid (_ → _) := hn4
              have hB6' : Below w.heap.size w (w6.drewN nn) := ⟨hB6.os, hB6.tape, hB6.output, hB6.size, hB6.block⟩
              have HR7 : Hid ((w6.drewN nn).ownsRow w.heap.size 3 1 (.slice (some ⟨w.heap.size, 0, none⟩) h.length h.length) h.length ((seenL h.length (i :: S)).map encI)) := HROW6.out
              obtain ⟨b', off', hbe, hbN, hic⟩ := (hA.below (hB6'.mono hN)).at hi
              cases hbe
              rw [HXE.out] at hic
              have HOKB : Hid (okB th v x = (decide (x.back = 0) || decide ((step th v x).2.2 = x.rp))) := rfl
              have hz7 := hB6'.size
              clear hlate hall hn3 hn4 hB6 hA6 hL6 HROW6 HN1 HN2
              generalize w6.drewN nn = w7 at *
              obtain ⟨c0, c1, c2, c3, c4, c5, c6, c7, c8, c9⟩ := hic
              unfold str at c3 c4 c5 c9
              generalize hst : step th v x = st at *
              obtain ⟨st1, st2, st3, st4⟩ := st
              unfold stV Rp.v at HST
              unfold str at HST
              dsimp only at HST HN4 HOKB
              clear hst
              go_wp2_with fail
              refine (HST _).mono ?_
              rintro e w8 ⟨rfl, hB8⟩
              have hz8 := hB8.size
              have c7' := (hB8.cell (p := ⟨b, off + i * 10 + 7, none⟩) (show b < _ by omega)).trans c7
              have c8' := (hB8.cell (p := ⟨b, off + i * 10 + 8, none⟩) (show b < _ by omega)).trans c8
              have c9' := (hB8.cell (p := ⟨b, off + i * 10 + 9, none⟩) (show b < _ by omega)).trans c9
              have qb := past1 (w1 := w8) (b := b) (by omega)
              have HR8 : Hid (∀ o : Obj, (w8.alloc o).ownsRow w.heap.size 3 1 (.slice (some ⟨w.heap.size, 0, none⟩) h.length h.length) h.length ((seenL h.length (i :: S)).map encI)) := fun o => World.ownsRow.alloc (row_below HR7.out hB8) _
              have HB8 : Hid (∀ o : Obj, Below w.heap.size w (w8.alloc o)) := fun o => (hB6'.trans (hB8.mono hz7)).alloc (by omega) _
              clear c0 c1 c2 c3 c4 c5 c6 c7 c8 c9 hB8 HST
              by_cases t1 : x.back = 0
              · have t1b : (x.back != 0) = false := by simp [t1]
                have HK : Hid (kp h key [] false [] l = kp h key (i :: S) st1 st2 (l.drop (k + 1))) := HN4.out (by rw [HOKB.out]; simp [t1])
                clear t1
                go_wp2
                go_quiet (fail)
                go_wp2
                refine ⟨⟨k + 1, i :: S, st1, st2, by simp, by omega, rfl, rfl, HR8.out _, ?_, HK.out⟩, by simp [intOf]; omega⟩
                exact below_drew (HB8.out _)
              · have t1b : (x.back != 0) = true := by simpa using t1
                by_cases t2 : (⟨st3, st4⟩ : Rp) = x.rp
                · have u1 : x.rp.code = st3 := by rw [← t2]
                  have u2 : x.rp.val = st4 := by rw [← t2]
                  have HK : Hid (kp h key [] false [] l = kp h key (i :: S) st1 st2 (l.drop (k + 1))) := HN4.out (by rw [HOKB.out]; simp [t2])
                  rw [u1] at c8'
                  rw [u2] at c9'
                  clear t1 t2 u1 u2
                  go_wp2
                  go_quiet (fail)
                  go_wp2
                  refine ⟨⟨k + 1, i :: S, st1, st2, by simp, by omega, rfl, rfl, HR8.out _, ?_, HK.out⟩, by simp [intOf]; omega⟩
                  exact below_drew (HB8.out _)
                · have HF0 : Hid (kp h key [] false [] l = false) := HN3.out (by rw [HOKB.out]; simp [t1, t2])
                  have hdj : (st3 == x.rp.code) = false ∨ ((st3 == x.rp.code) = true ∧ (st4 == x.rp.val) = false) := by
                    by_cases v1 : st3 = x.rp.code
                    · right
                      refine ⟨by simpa using v1, ?_⟩
                      simp only [beq_eq_false_iff_ne, ne_eq]
                      intro v2
                      exact t2 (by rw [v1, v2])
                    · left; simpa using v1
                  clear t1 t2
                  rcases hdj with d1 | ⟨d1, d2⟩
                  · go_wp2
                    go_quiet (fail)
                    go_wp2
                    go_ret
                    exact ⟨by rw [HF0.out]; rfl, below_drew (HB8.out _)⟩
                  · go_wp2
                    go_quiet (fail)
                    go_wp2
                    go_ret
                    exact ⟨by rw [HF0.out]; rfl, below_drew (HB8.out _)⟩
        · have HF0 : Hid (kp h key [] false [] l = false) := HFF.out (by simp [q5])
          have q5' : x.counts = false := by simpa using q5
          rw [q5'] at HX
          clear q4 q5 q5' HNX HFT HFF
          go_wp2_with (first
            | (go_at_call 16; refine (HX _).mono ?_; rintro e w5 ⟨rfl, rfl⟩))
          go_ret
          exact ⟨by rw [HF0.out]; rfl, (hB.alloc hz _).alloc (by simp; omega) _⟩
      · have q4b : (x.key == key) = false := by simpa using q4
        have HF0 : Hid (kp h key [] false [] l = false) := HFF.out (by simp [q4])
        clear q4 HNX HFT HFF HX
        go_wp2
        go_ret
        exact ⟨by rw [HF0.out]; rfl, hB⟩
    · have hke : k = l.length := by omega
      subst hke
      rw [List.drop_length] at hkp
      have HKP : Hid (kp h key [] false [] l = (List.range h.length).all fun i => !(mine h key i && decide ((oat h i).back ≠ 0)) || S.contains i) := hkp
      have HROW : Hid (wr.ownsRow w.heap.size 3 1 (.slice (some ⟨w.heap.size, 0, none⟩) h.length h.length) h.length ((seenL h.length S).map encI)) := hrow
      have HB : Hid (Below w.heap.size w wr) := hB
      clear hrow hkp hown3 hB3 hL
      go_wp2
      go_loopw [17] (fun iv wq => ∃ m : Nat, iv = .int .i64 m ∧ m ≤ h.length ∧ (∀ q, q < m → (!(mine h key q && decide ((oat h q).back ≠ 0)) || S.contains q) = true) ∧ Below wr.heap.size wr wq) (fun iv _ => h.length - (intOf iv).toNat)
      case atStart => exact ⟨0, rfl, by omega, fun q hq => by omega, Below.refl _ _⟩
      case round =>
        obtain ⟨m, rfl, hm, hall, hBq⟩ := hrel
        have hBw : Below w.heap.size w wr := HB.out.trans (hBq.mono hz)
        have hzq := hBw.size
        by_cases hml : m < h.length
        · obtain ⟨b, off, rfl, hb, hcs⟩ := (hA.below (hBw.mono hN)).at hml
          have hsc := (row_cell (row_below HROW.out hBq) (j := m) (by omega)).1
          rw [show ((seenL h.length S).map encI).getD m undef = .int .i64 (((if S.contains m then 1 else 0 : Nat)) : Int) from by
            rw [List.getD_eq_getElem?_getD, List.getElem?_map, List.getElem?_eq_getElem (by rw [seenL_len]; exact hml)]
            have := seenL_at S hml
            rw [List.getD_eq_getElem?_getD, List.getElem?_eq_getElem (by rw [seenL_len]; exact hml)] at this
            simp only [Option.getD_some] at this
            show encI _ = _
            rw [this]; rfl] at hsc
          have HX := counts_any (oat h m)
          have hmine : mine h key m = (decide ((oat h m).key = key) && (oat h m).counts) := rfl
          have HNEXT : Hid ((!((decide ((oat h m).key = key) && (oat h m).counts) && decide ((oat h m).back ≠ 0)) || S.contains m) = true → ∀ q, q < m + 1 → (!(mine h key q && decide ((oat h q).back ≠ 0)) || S.contains q) = true) := fun hf q hq => by
            by_cases e : q = m
            · rw [e, hmine]; exact hf
            · exact hall q (by omega)
          have HBAD : Hid ((!((decide ((oat h m).key = key) && (oat h m).counts) && decide ((oat h m).back ≠ 0)) || S.contains m) = false → kp h key [] false [] l = false) := fun hf => by
            rw [HKP.out, List.all_eq_false]
            exact ⟨m, List.mem_range.2 hml, by rw [hmine, hf]; simp⟩
          clear hall hmine
          generalize oat h m = x at *
          obtain ⟨c0, c1, c2, c3, c4, c5, c6, c7, c8, c9⟩ := hcs
          unfold Lo.v Lo.box Lo.cells at HX
          unfold str at HX c3 c4 c5 c9
          have hsz : w.heap.size < wr.heap.size := by obtain ⟨g, hg, -, hgl⟩ := row_ptr (row_below HROW.out hBq) (by omega); cases hg; exact hgl
          have qs := (past2 hsz).2.1
          have qh := (past2 (w1 := wr) (b := b) (by omega)).2.1
          by_cases q4 : x.key = key
          · have q4b : (x.key == key) = true := by simpa using q4
            by_cases q5 : x.counts = true
            · rw [q5] at HX
              by_cases q6 : x.back = 0
              · have q6b : (x.back != 0) = false := by simp [q6]
                have HF := HNEXT.out (by simp [q6])
                have HF1 : Hid (∀ q, _ → _) := HF
                clear HF q4 q5 q6 HBAD
                go_wp2_with (go_at_call 16; refine (HX _).mono ?_; rintro e w5 ⟨rfl, rfl⟩)
                exact ⟨⟨m + 1, by simp, by omega, HF1.out, (hBq.alloc hBq.size _).alloc (by have := hBq.size; simp; omega) _⟩, by simp [intOf]; omega⟩
              · have q6b : (x.back != 0) = true := by simpa using q6
                by_cases q7 : S.contains m = true
                · have HF := HNEXT.out (by rw [q7]; simp)
                  have HF1 : Hid (∀ q, _ → _) := HF
                  rw [if_pos q7] at hsc
                  clear HF q4 q5 q6 q7 HBAD
                  go_wp2_with (go_at_call 16; refine (HX _).mono ?_; rintro e w5 ⟨rfl, rfl⟩)
                  exact ⟨⟨m + 1, by simp, by omega, HF1.out, (hBq.alloc hBq.size _).alloc (by have := hBq.size; simp; omega) _⟩, by simp [intOf]; omega⟩
                · have HF0 : Hid (kp h key [] false [] l = false) := HBAD.out (by simp only [q4, q5]; simp; exact ⟨q6, by simpa using q7⟩)
                  rw [if_neg q7] at hsc
                  clear q4 q5 q6 q7 HBAD HNEXT
                  go_wp2_with (go_at_call 16; refine (HX _).mono ?_; rintro e w5 ⟨rfl, rfl⟩)
                  go_ret
                  exact ⟨by rw [HF0.out]; rfl, (hBw.alloc hzq _).alloc (by simp; omega) _⟩
            · have q5' : x.counts = false := by simpa using q5
              rw [q5'] at HX
              have HF := HNEXT.out (by simp [q5'])
              have HF1 : Hid (∀ q, _ → _) := HF
              clear HF q4 q5 q5' HBAD
              go_wp2_with (go_at_call 16; refine (HX _).mono ?_; rintro e w5 ⟨rfl, rfl⟩)
              exact ⟨⟨m + 1, by simp, by omega, HF1.out, (hBq.alloc hBq.size _).alloc (by have := hBq.size; simp; omega) _⟩, by simp [intOf]; omega⟩
          · have q4b : (x.key == key) = false := by simpa using q4
            have HF := HNEXT.out (by simp [q4])
            have HF1 : Hid (∀ q, _ → _) := HF
            clear HF q4 HBAD HX
            go_wp2
            exact ⟨⟨m + 1, by simp, by omega, HF1.out, hBq⟩, by simp [intOf]; omega⟩
        · have HT : Hid (kp h key [] false [] l = true) := by
            show _ = _
            rw [HKP.out, List.all_eq_true]
            intro q hq
            exact hall q (by have := List.mem_range.1 hq; omega)
          clear hall
          go_wp2
          go_ret
          exact ⟨by rw [HT.out]; rfl, hBw⟩
end Go.Proofs.Ytbcnpdpdflkanaa
