/-
  What Move does.
-/
import Derived.Test.YthaoobfldponpaaFi
namespace Go.Proofs.Ythaoobfldponpaa
open Go.RowKit
set_option linter.unusedVariables false

/-- How many go. -/
def mvN (room : Nat) (a b : List Int) (most : Int) : Nat := min a.length (min (room - b.length) most.toNat)

/-- Two queues, apart from each other. -/
structure Qq (N : Nat) (S S' : Nat → Prop) (w : World) (b r b' r' : Nat) (l l' : List Int) : Prop where
  p : Qu N S w b r l
  q : Qu N S' w b' r' l'
  ap : ∀ i, S i → ¬ S' i
theorem Qq.one {N : Nat} {S S' : Nat → Prop} {w w1 : World} {b r b' r' : Nat} {l l' l2 : List Int} (h : Qq N S S' w b r b' r' l l') (t : Th N S w w1 b r l2) : Qq N (grew S w w1) S' w1 b r b' r' l2 l' :=
  ⟨t.q, h.q.out t.out (fun i hi hs => h.ap i hs hi), fun i hi hs => hi.elim (fun h1 => h.ap i h1 hs) (fun h2 => by have := h.q.inn i hs; omega)⟩
theorem Qq.two {N : Nat} {S S' : Nat → Prop} {w w1 : World} {b r b' r' : Nat} {l l' l2 : List Int} (h : Qq N S S' w b r b' r' l l') (t : Th N S' w w1 b' r' l2) : Qq N S (grew S' w w1) w1 b r b' r' l l2 :=
  ⟨h.p.out t.out (fun i hi hs => h.ap i hi hs), t.q, fun i hs hi => hi.elim (fun h1 => h.ap i hs h1) (fun h2 => by have := h.p.inn i hs; omega)⟩
theorem Qq.below {N : Nat} {S S' : Nat → Prop} {w w1 : World} {b r b' r' : Nat} {l l' : List Int} (h : Qq N S S' w b r b' r' l l') (hB : Below w.heap.size w w1) : Qq N S S' w1 b r b' r' l l' := ⟨h.p.below hB, h.q.below hB, h.ap⟩
theorem Qq.drew {N : Nat} {S S' : Nat → Prop} {w : World} {b r b' r' : Nat} {l l' : List Int} (h : Qq N S S' w b r b' r' l l') (n : Nat) : Qq N S S' (w.drewN n) b r b' r' l l' :=
  ⟨h.p.out (X := fun _ => False) (Out.drew w n) (fun _ _ hf => hf), h.q.out (X := fun _ => False) (Out.drew w n) (fun _ _ hf => hf), h.ap⟩

/-- Behind Move. -/
def Mvd (N : Nat) (w w' : World) (b r b' r' : Nat) (l l' : List Int) : Prop := ∃ S S', Qq N S S' w' b r b' r' l l' ∧ Below N w w'

set_option maxRecDepth 100000 in
set_option maxHeartbeats 4000000 in
theorem move_any {N : Nat} {S S' : Nat → Prop} {w : World} {b r b' r' : Nat} {l l' : List Int} (h : Qq N S S' w b r b' r' l l') (hN : N ≤ w.heap.size) (most : Int) :
    Calls Try.prog 28 #[.pointer (some ⟨b, 0, none⟩), .pointer (some ⟨b', 0, none⟩), .int .i64 most] w fun e w' => e = .returned (.int .i64 (mvN r' l l' most : Int)) ∧ Mvd N w w' b r b' r' (l.drop (mvN r' l l' most)) (l' ++ l.take (mvN r' l l' most)) := by
  have HLN := len_any h.p
  have HRM := room_any h.q
  have hl64 : l.length ≤ 64 := by have := h.p.len; have := h.p.rm; omega
  have hr64 : r' ≤ 64 := h.q.rm
  have hl'r : l'.length ≤ r' := h.q.len
  have HN : Hid (N ≤ w.heap.size) := hN
  obtain ⟨M, HM⟩ : ∃ M, Hid (mvN r' l l' most = M) := ⟨_, rfl⟩
  have HCS : (r' - l'.length < l.length ∧ ((r' - l'.length : Nat) : Int) ≤ most ∧ max 0 ((r' - l'.length : Nat) : Int) = (M : Int)) ∨ (r' - l'.length < l.length ∧ most < ((r' - l'.length : Nat) : Int) ∧ max 0 most = (M : Int)) ∨ (l.length ≤ r' - l'.length ∧ (l.length : Int) ≤ most ∧ max 0 (l.length : Int) = (M : Int)) ∨ (l.length ≤ r' - l'.length ∧ most < (l.length : Int) ∧ max 0 most = (M : Int)) := by
    rw [← HM.out]
    unfold mvN
    omega
  rw [HM.out]
  have HML : Hid (M ≤ l.length ∧ M ≤ r' - l'.length) := by show _ ∧ _; rw [← HM.out]; unfold mvN; omega
  have HQ : Hid (∀ q, Qq N S S' (w.drewN q) b r b' r' l l') := fun q => h.drew q
  have hM64 : M ≤ 64 := by have := HML.out; omega
  clear h hN hl64 hr64 hl'r
  generalize hgl : l.length = x at HLN HCS
  generalize hgr : r' - l'.length = y at HRM HCS
  have HGL : Hid (l.length = x) := hgl
  clear hgl hgr
  rcases HCS with ⟨hy1, hy2, hy3⟩ | ⟨hy1, hy2, hy3⟩ | ⟨hy1, hy2, hy3⟩ | ⟨hy1, hy2, hy3⟩
  · go_enter Try.func28, Try.ntmps28
    go_wp2_with (first
      | (go_at_call 27; refine HLN.mono ?_; rintro e w1 ⟨rfl, hw1⟩; subst w1)
      | (go_at_call 24; refine HRM.mono ?_; rintro e w1 ⟨rfl, q, rfl⟩; have hq0 := HQ.out q))
    have HQ0 : Hid _ := hq0
    clear hq0
    go_loopw [18] (fun kv wr => ∃ (k : Nat) (T T' : Nat → Prop), kv = .int .i64 (k : Int) ∧ k ≤ M ∧ Qq N T T' wr b r b' r' (l.drop k) (l' ++ l.take k) ∧ Below N w wr) (fun kv _ => M - (intOf kv).toNat)
    case atStart => exact ⟨0, S, S', rfl, Nat.zero_le _, by simpa using HQ0.out, (Out.drew (X := fun _ => False) w q).below HN.out (fun _ h => h.elim)⟩
    case round =>
      obtain ⟨k, T, T', rfl, hk, hq, hB⟩ := hrel
      have HB : Hid (Below N w wr) := hB
      by_cases hkM : k < M
      · have hkM' : (k : Int) < (M : Int) := by omega
        have hkl : k < l.length := by have := HML.out; have := HGL.out; omega
        have hNr : N ≤ wr.heap.size := Nat.le_trans HN.out hB.size
        have HTK := take_any hq.p hNr
        have hd : l.drop k = l[k] :: l.drop (k + 1) := List.drop_eq_getElem_cons hkl
        rw [hd] at HTK
        simp only [List.headD_cons, List.isEmpty_cons, Bool.not_false, List.tail_cons] at HTK
        have HSTEP : Hid (∀ w1, Th N T wr w1 b r (l.drop (k + 1)) → Below N w w1 ∧ Calls Try.prog 25 #[.pointer (some ⟨b', 0, none⟩), .int .i64 l[k]] w1 fun e w' => e = .returned (.bool true) ∧ ∃ T1 T1', Qq N T1 T1' w' b r b' r' (l.drop (k + 1)) (l' ++ l.take (k + 1)) ∧ Below N w w') := fun w1 t1 => by
          have hq1 := hq.one t1
          have hB1 : Below N w w1 := HB.out.trans (t1.bel hNr)
          refine ⟨hB1, ?_⟩
          have hlt : (l' ++ l.take k).length < r' := by have := HML.out; simp; omega
          refine (put_any hq1.q (Nat.le_trans HN.out hB1.size) l[k]).mono ?_
          rintro e w2 ⟨rfl, t2⟩
          have := hq1.two t2
          have e2 : putL r' (l' ++ l.take k) l[k] = l' ++ l.take (k + 1) := by
            unfold putL
            rw [if_pos hlt, List.append_assoc, List.take_add_one]
            simp [hkl]
          rw [e2] at this
          exact ⟨by simpa using hlt, _, _, this, hB1.trans (t2.bel (Nat.le_trans HN.out hB1.size))⟩
        generalize hlk : l[k] = x at *
        clear hq hB hd hlk
        go_wp2_with (first
          | (go_at_call 26; refine HTK.mono ?_; rintro e w1 ⟨rfl, t1⟩; obtain ⟨-, HPUT⟩ := HSTEP.out w1 t1; clear t1)
          | (go_at_call 25; refine HPUT.mono ?_; rintro e w2 ⟨rfl, T1, T1', hq2, hB2⟩; have HQ2 : Hid _ := hq2; have HB2 : Hid _ := hB2; clear hq2 hB2))
        exact ⟨⟨k + 1, T1, T1', by go_num, by omega, HQ2.out, HB2.out⟩, by simp [intOf]; omega⟩
      · have hkM' : decide ((k : Int) < (M : Int)) = false := by simp; omega
        obtain rfl : k = M := by omega
        have HQF : Hid _ := hq
        clear hq hB
        go_wp2
        go_ret
        exact ⟨rfl, T, T', HQF.out, HB.out⟩
  · go_enter Try.func28, Try.ntmps28
    go_wp2_with (first
      | (go_at_call 27; refine HLN.mono ?_; rintro e w1 ⟨rfl, hw1⟩; subst w1)
      | (go_at_call 24; refine HRM.mono ?_; rintro e w1 ⟨rfl, q, rfl⟩; have hq0 := HQ.out q))
    have HQ0 : Hid _ := hq0
    clear hq0
    go_loopw [18] (fun kv wr => ∃ (k : Nat) (T T' : Nat → Prop), kv = .int .i64 (k : Int) ∧ k ≤ M ∧ Qq N T T' wr b r b' r' (l.drop k) (l' ++ l.take k) ∧ Below N w wr) (fun kv _ => M - (intOf kv).toNat)
    case atStart => exact ⟨0, S, S', rfl, Nat.zero_le _, by simpa using HQ0.out, (Out.drew (X := fun _ => False) w q).below HN.out (fun _ h => h.elim)⟩
    case round =>
      obtain ⟨k, T, T', rfl, hk, hq, hB⟩ := hrel
      have HB : Hid (Below N w wr) := hB
      by_cases hkM : k < M
      · have hkM' : (k : Int) < (M : Int) := by omega
        have hkl : k < l.length := by have := HML.out; have := HGL.out; omega
        have hNr : N ≤ wr.heap.size := Nat.le_trans HN.out hB.size
        have HTK := take_any hq.p hNr
        have hd : l.drop k = l[k] :: l.drop (k + 1) := List.drop_eq_getElem_cons hkl
        rw [hd] at HTK
        simp only [List.headD_cons, List.isEmpty_cons, Bool.not_false, List.tail_cons] at HTK
        have HSTEP : Hid (∀ w1, Th N T wr w1 b r (l.drop (k + 1)) → Below N w w1 ∧ Calls Try.prog 25 #[.pointer (some ⟨b', 0, none⟩), .int .i64 l[k]] w1 fun e w' => e = .returned (.bool true) ∧ ∃ T1 T1', Qq N T1 T1' w' b r b' r' (l.drop (k + 1)) (l' ++ l.take (k + 1)) ∧ Below N w w') := fun w1 t1 => by
          have hq1 := hq.one t1
          have hB1 : Below N w w1 := HB.out.trans (t1.bel hNr)
          refine ⟨hB1, ?_⟩
          have hlt : (l' ++ l.take k).length < r' := by have := HML.out; simp; omega
          refine (put_any hq1.q (Nat.le_trans HN.out hB1.size) l[k]).mono ?_
          rintro e w2 ⟨rfl, t2⟩
          have := hq1.two t2
          have e2 : putL r' (l' ++ l.take k) l[k] = l' ++ l.take (k + 1) := by
            unfold putL
            rw [if_pos hlt, List.append_assoc, List.take_add_one]
            simp [hkl]
          rw [e2] at this
          exact ⟨by simpa using hlt, _, _, this, hB1.trans (t2.bel (Nat.le_trans HN.out hB1.size))⟩
        generalize hlk : l[k] = x at *
        clear hq hB hd hlk
        go_wp2_with (first
          | (go_at_call 26; refine HTK.mono ?_; rintro e w1 ⟨rfl, t1⟩; obtain ⟨-, HPUT⟩ := HSTEP.out w1 t1; clear t1)
          | (go_at_call 25; refine HPUT.mono ?_; rintro e w2 ⟨rfl, T1, T1', hq2, hB2⟩; have HQ2 : Hid _ := hq2; have HB2 : Hid _ := hB2; clear hq2 hB2))
        exact ⟨⟨k + 1, T1, T1', by go_num, by omega, HQ2.out, HB2.out⟩, by simp [intOf]; omega⟩
      · have hkM' : decide ((k : Int) < (M : Int)) = false := by simp; omega
        obtain rfl : k = M := by omega
        have HQF : Hid _ := hq
        clear hq hB
        go_wp2
        go_ret
        exact ⟨rfl, T, T', HQF.out, HB.out⟩
  · go_enter Try.func28, Try.ntmps28
    go_wp2_with (first
      | (go_at_call 27; refine HLN.mono ?_; rintro e w1 ⟨rfl, hw1⟩; subst w1)
      | (go_at_call 24; refine HRM.mono ?_; rintro e w1 ⟨rfl, q, rfl⟩; have hq0 := HQ.out q))
    have HQ0 : Hid _ := hq0
    clear hq0
    go_loopw [18] (fun kv wr => ∃ (k : Nat) (T T' : Nat → Prop), kv = .int .i64 (k : Int) ∧ k ≤ M ∧ Qq N T T' wr b r b' r' (l.drop k) (l' ++ l.take k) ∧ Below N w wr) (fun kv _ => M - (intOf kv).toNat)
    case atStart => exact ⟨0, S, S', rfl, Nat.zero_le _, by simpa using HQ0.out, (Out.drew (X := fun _ => False) w q).below HN.out (fun _ h => h.elim)⟩
    case round =>
      obtain ⟨k, T, T', rfl, hk, hq, hB⟩ := hrel
      have HB : Hid (Below N w wr) := hB
      by_cases hkM : k < M
      · have hkM' : (k : Int) < (M : Int) := by omega
        have hkl : k < l.length := by have := HML.out; have := HGL.out; omega
        have hNr : N ≤ wr.heap.size := Nat.le_trans HN.out hB.size
        have HTK := take_any hq.p hNr
        have hd : l.drop k = l[k] :: l.drop (k + 1) := List.drop_eq_getElem_cons hkl
        rw [hd] at HTK
        simp only [List.headD_cons, List.isEmpty_cons, Bool.not_false, List.tail_cons] at HTK
        have HSTEP : Hid (∀ w1, Th N T wr w1 b r (l.drop (k + 1)) → Below N w w1 ∧ Calls Try.prog 25 #[.pointer (some ⟨b', 0, none⟩), .int .i64 l[k]] w1 fun e w' => e = .returned (.bool true) ∧ ∃ T1 T1', Qq N T1 T1' w' b r b' r' (l.drop (k + 1)) (l' ++ l.take (k + 1)) ∧ Below N w w') := fun w1 t1 => by
          have hq1 := hq.one t1
          have hB1 : Below N w w1 := HB.out.trans (t1.bel hNr)
          refine ⟨hB1, ?_⟩
          have hlt : (l' ++ l.take k).length < r' := by have := HML.out; simp; omega
          refine (put_any hq1.q (Nat.le_trans HN.out hB1.size) l[k]).mono ?_
          rintro e w2 ⟨rfl, t2⟩
          have := hq1.two t2
          have e2 : putL r' (l' ++ l.take k) l[k] = l' ++ l.take (k + 1) := by
            unfold putL
            rw [if_pos hlt, List.append_assoc, List.take_add_one]
            simp [hkl]
          rw [e2] at this
          exact ⟨by simpa using hlt, _, _, this, hB1.trans (t2.bel (Nat.le_trans HN.out hB1.size))⟩
        generalize hlk : l[k] = x at *
        clear hq hB hd hlk
        go_wp2_with (first
          | (go_at_call 26; refine HTK.mono ?_; rintro e w1 ⟨rfl, t1⟩; obtain ⟨-, HPUT⟩ := HSTEP.out w1 t1; clear t1)
          | (go_at_call 25; refine HPUT.mono ?_; rintro e w2 ⟨rfl, T1, T1', hq2, hB2⟩; have HQ2 : Hid _ := hq2; have HB2 : Hid _ := hB2; clear hq2 hB2))
        exact ⟨⟨k + 1, T1, T1', by go_num, by omega, HQ2.out, HB2.out⟩, by simp [intOf]; omega⟩
      · have hkM' : decide ((k : Int) < (M : Int)) = false := by simp; omega
        obtain rfl : k = M := by omega
        have HQF : Hid _ := hq
        clear hq hB
        go_wp2
        go_ret
        exact ⟨rfl, T, T', HQF.out, HB.out⟩
  · go_enter Try.func28, Try.ntmps28
    go_wp2_with (first
      | (go_at_call 27; refine HLN.mono ?_; rintro e w1 ⟨rfl, hw1⟩; subst w1)
      | (go_at_call 24; refine HRM.mono ?_; rintro e w1 ⟨rfl, q, rfl⟩; have hq0 := HQ.out q))
    have HQ0 : Hid _ := hq0
    clear hq0
    go_loopw [18] (fun kv wr => ∃ (k : Nat) (T T' : Nat → Prop), kv = .int .i64 (k : Int) ∧ k ≤ M ∧ Qq N T T' wr b r b' r' (l.drop k) (l' ++ l.take k) ∧ Below N w wr) (fun kv _ => M - (intOf kv).toNat)
    case atStart => exact ⟨0, S, S', rfl, Nat.zero_le _, by simpa using HQ0.out, (Out.drew (X := fun _ => False) w q).below HN.out (fun _ h => h.elim)⟩
    case round =>
      obtain ⟨k, T, T', rfl, hk, hq, hB⟩ := hrel
      have HB : Hid (Below N w wr) := hB
      by_cases hkM : k < M
      · have hkM' : (k : Int) < (M : Int) := by omega
        have hkl : k < l.length := by have := HML.out; have := HGL.out; omega
        have hNr : N ≤ wr.heap.size := Nat.le_trans HN.out hB.size
        have HTK := take_any hq.p hNr
        have hd : l.drop k = l[k] :: l.drop (k + 1) := List.drop_eq_getElem_cons hkl
        rw [hd] at HTK
        simp only [List.headD_cons, List.isEmpty_cons, Bool.not_false, List.tail_cons] at HTK
        have HSTEP : Hid (∀ w1, Th N T wr w1 b r (l.drop (k + 1)) → Below N w w1 ∧ Calls Try.prog 25 #[.pointer (some ⟨b', 0, none⟩), .int .i64 l[k]] w1 fun e w' => e = .returned (.bool true) ∧ ∃ T1 T1', Qq N T1 T1' w' b r b' r' (l.drop (k + 1)) (l' ++ l.take (k + 1)) ∧ Below N w w') := fun w1 t1 => by
          have hq1 := hq.one t1
          have hB1 : Below N w w1 := HB.out.trans (t1.bel hNr)
          refine ⟨hB1, ?_⟩
          have hlt : (l' ++ l.take k).length < r' := by have := HML.out; simp; omega
          refine (put_any hq1.q (Nat.le_trans HN.out hB1.size) l[k]).mono ?_
          rintro e w2 ⟨rfl, t2⟩
          have := hq1.two t2
          have e2 : putL r' (l' ++ l.take k) l[k] = l' ++ l.take (k + 1) := by
            unfold putL
            rw [if_pos hlt, List.append_assoc, List.take_add_one]
            simp [hkl]
          rw [e2] at this
          exact ⟨by simpa using hlt, _, _, this, hB1.trans (t2.bel (Nat.le_trans HN.out hB1.size))⟩
        generalize hlk : l[k] = x at *
        clear hq hB hd hlk
        go_wp2_with (first
          | (go_at_call 26; refine HTK.mono ?_; rintro e w1 ⟨rfl, t1⟩; obtain ⟨-, HPUT⟩ := HSTEP.out w1 t1; clear t1)
          | (go_at_call 25; refine HPUT.mono ?_; rintro e w2 ⟨rfl, T1, T1', hq2, hB2⟩; have HQ2 : Hid _ := hq2; have HB2 : Hid _ := hB2; clear hq2 hB2))
        exact ⟨⟨k + 1, T1, T1', by go_num, by omega, HQ2.out, HB2.out⟩, by simp [intOf]; omega⟩
      · have hkM' : decide ((k : Int) < (M : Int)) = false := by simp; omega
        obtain rfl : k = M := by omega
        have HQF : Hid _ := hq
        clear hq hB
        go_wp2
        go_ret
        exact ⟨rfl, T, T', HQF.out, HB.out⟩

end Go.Proofs.Ythaoobfldponpaa
