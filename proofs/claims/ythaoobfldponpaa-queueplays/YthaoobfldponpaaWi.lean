/-
  Len, Items, Clear of a queue of ints; windows: what NewWindow, Add, Free, Full, Items, Clear do.
-/
import Derived.Test.YthaoobfldponpaaQu
namespace Go.Proofs.Ythaoobfldponpaa
open Go.RowKit
set_option linter.unusedVariables false

theorem len_any {N : Nat} {S : Nat → Prop} {w : World} {b room : Nat} {l : List Int} (h : Qu N S w b room l) :
    Calls Try.prog 27 #[.pointer (some ⟨b, 0, none⟩)] w fun e w' => e = .returned (.int .i64 (l.length : Int)) ∧ w' = w := by
  obtain ⟨a, c, ⟨c0, c1, -⟩, -, -, -⟩ := h.cells
  clear h
  generalize l.length = n at *
  go_enter Try.func27, Try.ntmps27
  go_wp2
  go_ret
  exact ⟨rfl, rfl⟩

set_option maxRecDepth 100000 in
theorem items_any {N : Nat} {S : Nat → Prop} {w : World} {b room : Nat} {l : List Int} (h : Qu N S w b room l) :
    Calls Try.prog 37 #[.pointer (some ⟨b, 0, none⟩)] w fun e w' => ∃ v', e = .returned v' ∧ Ow w.heap.size w' v' l ∧ Below w.heap.size w w' := by
  obtain ⟨a, c, ⟨c0, c1, -⟩, ho, -, -⟩ := h.cells
  have hsl := ho.sl (Nat.le_refl _)
  have hlen : ([] : List Int).length + l.length ≤ 1099511627776 := by have := h.len; have := h.rm; simp; omega
  clear h ho
  go_enter Try.func37, Try.ntmps37
  go_wp2_with (at_builtin; refine wpList_append_ow rfl _ _ rfl w.heap.size _ _ _ [] l rfl (Ow.nil _ _) rfl hsl hlen (Nat.le_refl _) ?_; intro v' w1 hO hg _)
  go_ret
  exact ⟨v', rfl, hO, (Below.refl _ _).grown hg (Nat.le_refl _) (fun k e => by cases e)⟩

set_option maxRecDepth 100000 in
theorem clear_any {N : Nat} {S : Nat → Prop} {w : World} {b room : Nat} {l : List Int} (h : Qu N S w b room l) (hN : N ≤ w.heap.size) :
    Calls Try.prog 35 #[.pointer (some ⟨b, 0, none⟩)] w fun e w' => e = .returned (.int .i64 (l.length : Int)) ∧ Th N S w w' b room [] := by
  obtain ⟨a, c, ⟨c0, c1, f1⟩, ho, hS, hb⟩ := h.cells
  have HT : Hid (Th N S w (w.setCell ⟨b, 1, none⟩ (.slice none 0 0)) b room []) := h.turn hN hb ho hS (Out.refl _ _) (Ow.nil _ _) (.inr (by simp [Value.ownBlock])) (Nat.zero_le _)
  clear h ho hS hb
  generalize l.length = n at *
  go_enter Try.func35, Try.ntmps35
  go_wp2
  go_ret
  exact ⟨rfl, HT.out⟩

theorem Qu.mono {N : Nat} {S S' : Nat → Prop} {w : World} {b room : Nat} {l : List Int} (h : Qu N S w b room l) (hS : ∀ i, S i → S' i) (hi : ∀ i, S' i → i < w.heap.size) (hf : ∀ i, S' i → N ≤ i) : Qu N S' w b room l :=
  ⟨h.at_.imp fun v hv => ⟨hv.1, hv.2.1, fun g hg => hS _ (hv.2.2 g hg)⟩, h.len, h.rm, hS _ h.Sb, hi, hf⟩
theorem Th.same {N : Nat} {S : Nat → Prop} {w : World} {b room : Nat} {l : List Int} (h : Qu N S w b room l) : Th N S w w b room l :=
  ⟨h.mono (fun _ hi => .inl hi) (fun i hi => h.inn i (grew_refl hi)) (fun i hi => h.fr i (grew_refl hi)), Out.refl _ _⟩

/-- Block d holds a window. -/
structure Wn (N : Nat) (S : Nat → Prop) (w : World) (d room : Nat) (l : List Int) : Prop where
  at_ : ∃ b, w.heap[d]? = some (.cells #[.pointer (some ⟨b, 0, none⟩)] 60 (0, 0)) ∧ Qu N (fun i => S i ∧ i ≠ d) w b room l
  Sd : S d
  inn : ∀ i, S i → i < w.heap.size
  fr : ∀ i, S i → N ≤ i
structure WTh (N : Nat) (S : Nat → Prop) (w w' : World) (d room : Nat) (l : List Int) : Prop where
  q : Wn N (grew S w w') w' d room l
  out : Out S w w'
theorem Wn.len {N : Nat} {S : Nat → Prop} {w : World} {d room : Nat} {l : List Int} (h : Wn N S w d room l) : l.length ≤ room ∧ room ≤ 64 := by
  obtain ⟨b, -, h2⟩ := h.at_
  exact ⟨h2.len, h2.rm⟩
theorem Wn.out {N : Nat} {S X : Nat → Prop} {w w' : World} {d room : Nat} {l : List Int} (h : Wn N S w d room l) (hO : Out X w w') (hx : ∀ i, S i → ¬ X i) : Wn N S w' d room l := by
  obtain ⟨b, hb, hq⟩ := h.at_
  exact ⟨⟨b, (hO.block d (h.inn _ h.Sd) (hx _ h.Sd)).trans hb, hq.out hO (fun i hi => hx i hi.1)⟩, h.Sd, fun i hi => Nat.lt_of_lt_of_le (h.inn i hi) hO.size, h.fr⟩
theorem Wn.below {N : Nat} {S : Nat → Prop} {w w' : World} {d room : Nat} {l : List Int} (h : Wn N S w d room l) (hB : Below w.heap.size w w') : Wn N S w' d room l :=
  h.out (X := fun _ => False) (Out.of_below hB) (fun _ _ hf => hf)
theorem WTh.bel {N : Nat} {S : Nat → Prop} {w w' : World} {d room : Nat} {l : List Int} (h : WTh N S w w' d room l) (hN : N ≤ w.heap.size) : Below N w w' :=
  h.out.below hN (fun i hi => h.q.fr i (.inl hi))
/-- A call of its queue. -/
theorem Wn.step {N : Nat} {S : Nat → Prop} {w w' : World} {d b room : Nat} {l l' : List Int} (h : Wn N S w d room l) (hd : w.heap[d]? = some (.cells #[.pointer (some ⟨b, 0, none⟩)] 60 (0, 0))) (hN : N ≤ w.heap.size) (ht : Th N (fun i => S i ∧ i ≠ d) w w' b room l') : WTh N S w w' d room l' := by
  have hO : Out S w w' := ht.out.mono (fun i hi => hi.1)
  have hi' : ∀ i, grew S w w' i → i < w'.heap.size := by
    rintro i (hi | hi)
    · exact Nat.lt_of_lt_of_le (h.inn i hi) hO.size
    · exact hi.2
  have hf' : ∀ i, grew S w w' i → N ≤ i := by
    rintro i (hi | hi)
    · exact h.fr i hi
    · omega
  refine ⟨⟨⟨b, (ht.out.block d (h.inn _ h.Sd) (fun hx => hx.2 rfl)).trans hd, ?_⟩, .inl h.Sd, hi', hf'⟩, hO⟩
  refine ht.q.mono ?_ (fun i hi => hi' i hi.1) (fun i hi => hf' i hi.1)
  rintro i (hi | hi)
  · exact ⟨.inl hi.1, hi.2⟩
  · exact ⟨.inr hi, fun e => by have := h.inn _ h.Sd; omega⟩

theorem newWindow_any (N room : Nat) (w : World) (h1 : 1 ≤ room) (h2 : room ≤ 64) (hN : N ≤ w.heap.size) :
    Calls Try.prog 13 #[.int .i64 (room : Int)] w fun e w' => e = .returned (.pointer (some ⟨w.heap.size + 1, 0, none⟩)) ∧ Wn N (fun i => w.heap.size ≤ i ∧ i < w.heap.size + 2) w' (w.heap.size + 1) room [] ∧ Below w.heap.size w w' := by
  have HN := new_any room w h1 h2
  have HQ : Hid (Wn N (fun i => w.heap.size ≤ i ∧ i < w.heap.size + 2) ((w.alloc (.cells #[.int .i64 (room : Int), .slice none 0 0] 58)).alloc (.cells #[.pointer (some ⟨w.heap.size, 0, none⟩)] 60)) (w.heap.size + 1) room []) := by
    have hq := new_qu N room w hN h2
    have hB : Below (w.heap.size + 1) (w.alloc (.cells #[.int .i64 (room : Int), .slice none 0 0] 58)) ((w.alloc (.cells #[.int .i64 (room : Int), .slice none 0 0] 58)).alloc (.cells #[.pointer (some ⟨w.heap.size, 0, none⟩)] 60)) := (Below.refl _ _).alloc (by simp) _
    have hq2 := hq.below (by simpa using hB)
    refine ⟨⟨w.heap.size, ?_, hq2.mono ?_ ?_ ?_⟩, ⟨by omega, by omega⟩, fun i hi => by simp; omega, fun i hi => by omega⟩
    · have := heap_alloc_new (w.alloc (.cells #[.int .i64 (room : Int), .slice none 0 0] 58)) (.cells #[.pointer (some ⟨w.heap.size, 0, none⟩)] 60)
      simpa using this
    · rintro i rfl; exact ⟨⟨by omega, by omega⟩, by omega⟩
    · intro i hi; simp; omega
    · intro i hi; omega
  have HB : Hid (Below w.heap.size w ((w.alloc (.cells #[.int .i64 (room : Int), .slice none 0 0] 58)).alloc (.cells #[.pointer (some ⟨w.heap.size, 0, none⟩)] 60))) := ((Below.refl _ w).alloc (Nat.le_refl _) _).alloc (by simp) _
  clear h1 h2 hN
  go_enter Try.func13, Try.ntmps13
  go_wp2_with (go_at_call 10; refine HN.mono ?_; rintro e w1 ⟨rfl, rfl⟩)
  go_ret
  exact ⟨by simp, HQ.out, HB.out⟩

theorem newWindow_none (room : Int) (w : World) (h : (decide (1 ≤ room) && decide (room ≤ 64)) = false) :
    Calls Try.prog 13 #[.int .i64 room] w fun e w' => e = .returned (.pointer none) ∧ w' = w := by
  have HN := new_none room w h
  clear h
  go_enter Try.func13, Try.ntmps13
  go_wp2_with (go_at_call 10; refine HN.mono ?_; rintro e w1 ⟨rfl, rfl⟩)
  go_ret
  exact ⟨rfl, rfl⟩

/-- Whether n is above all. -/
def above (l : List Int) (n : Int) : Bool := match l.getLast? with | none => true | some x => decide (x < n)
def addOk (room : Nat) (l : List Int) (n : Int) : Bool := above l n && decide (l.length < room)
def addL (room : Nat) (l : List Int) (n : Int) : List Int := if above l n then putL room l n else l

theorem Wn.cells {N : Nat} {S : Nat → Prop} {w : World} {d room : Nat} {l : List Int} (h : Wn N S w d room l) : ∃ b, w.cell? ⟨d, 0, none⟩ = some (.pointer (some ⟨b, 0, none⟩)) ∧ w.heap[d]? = some (.cells #[.pointer (some ⟨b, 0, none⟩)] 60 (0, 0)) ∧ Qu N (fun i => S i ∧ i ≠ d) w b room l := by
  obtain ⟨b, hb, hq⟩ := h.at_
  exact ⟨b, by simp [World.cell?, hb], hb, hq⟩

set_option maxRecDepth 100000 in
theorem add_any {N : Nat} {S : Nat → Prop} {w : World} {d room : Nat} {l : List Int} (h : Wn N S w d room l) (hN : N ≤ w.heap.size) (n : Int) :
    Calls Try.prog 14 #[.pointer (some ⟨d, 0, none⟩), .int .i64 n] w fun e w' => e = .returned (.bool (addOk room l n)) ∧ WTh N S w w' d room (addL room l n) := by
  obtain ⟨b, cd, hd, hq⟩ := h.cells
  obtain ⟨a, c, ⟨c0, c1, -⟩, ho, -, -⟩ := hq.cells
  have HP := put_any hq hN n
  have HS : Hid (∀ w' l', Th N (fun i => S i ∧ i ≠ d) w w' b room l' → WTh N S w w' d room l') := fun w' l' ht => h.step hd hN ht
  have HZ : Hid (WTh N S w w d room l) := h.step hd hN (Th.same hq)
  have hlm : l.length ≤ 64 := by have := h.len; omega
  clear h hq
  by_cases hz : l = []
  · subst hz
    have e1 : addOk room [] n = decide (([] : List Int).length < room) := by simp [addOk, above]
    have e2 : addL room [] n = putL room [] n := by simp [addL, above]
    rw [e1, e2]
    clear e1 e2 HZ ho
    simp only [List.length_nil] at c1 HP ⊢
    go_enter Try.func14, Try.ntmps14
    go_wp2_with (go_at_call 25; refine HP.mono ?_; rintro e w1 ⟨rfl, ht⟩)
    go_ret
    exact ⟨rfl, HS.out _ _ ht⟩
  · have hp : 0 < l.length := List.length_pos_iff.2 hz
    obtain ⟨a', cap, hv, -, -, hc⟩ := ho.sl (Nat.le_refl _)
    cases hv
    obtain ⟨g, off, rfl, -, hc⟩ := hc.resolve_left hz
    have k0 := hc (l.length - 1) (by omega)
    obtain ⟨y, hy⟩ : ∃ y, l.getLast? = some y := ⟨l.getLast hz, List.getLast?_eq_some_getLast hz⟩
    have hy' : l[l.length - 1]?.getD 0 = y := by rw [← List.getLast?_eq_getElem?, hy]; rfl
    rw [hy'] at k0
    have hL : (l.length : Int) - 1 = ((l.length - 1 : Nat) : Int) := by omega
    have hw : IntKind.i64.wrap ((l.length : Int) - 1) = ((l.length - 1 : Nat) : Int) := by rw [IntKind.wrap_i64]; omega
    have hlt : l.length - 1 < l.length := by omega
    clear hc ho hy'
    by_cases hny : y < n
    · have e1 : addOk room l n = decide (l.length < room) := by simp [addOk, above, hy, hny]
      have e2 : addL room l n = putL room l n := by simp [addL, above, hy, hny]
      have hle : decide (n ≤ y) = false := by simpa using hny
      rw [e1, e2]
      clear e1 e2 HZ hy hny hz
      generalize l.length - 1 = k at *
      generalize hLL : l.length = L at *
      go_enter Try.func14, Try.ntmps14
      go_wp2_with (go_at_call 25; refine HP.mono ?_; rintro e w1 ⟨rfl, ht⟩)
      go_ret
      exact ⟨rfl, HS.out _ _ ht⟩
    · have e1 : addOk room l n = false := by simp [addOk, above, hy, hny]
      have e2 : addL room l n = l := by simp [addL, above, hy, hny]
      have hle : decide (n ≤ y) = true := by simpa using hny
      rw [e1, e2]
      clear e1 e2 HS HP hy hny hz
      generalize l.length - 1 = k at *
      generalize hLL : l.length = L at *
      go_enter Try.func14, Try.ntmps14
      go_wp2
      go_ret
      exact ⟨rfl, HZ.out⟩

theorem witems_any {N : Nat} {S : Nat → Prop} {w : World} {d room : Nat} {l : List Int} (h : Wn N S w d room l) :
    Calls Try.prog 17 #[.pointer (some ⟨d, 0, none⟩)] w fun e w' => ∃ v', e = .returned v' ∧ Ow w.heap.size w' v' l ∧ Below w.heap.size w w' := by
  obtain ⟨b, cd, hd, hq⟩ := h.cells
  have HI := items_any hq
  clear h hq hd
  go_enter Try.func17, Try.ntmps17
  go_wp2_with (go_at_call 37; refine HI.mono ?_; rintro e w1 ⟨v', rfl, h1, h2⟩; have H1 : Hid _ := h1; have H2 : Hid _ := h2; clear h1 h2)
  go_ret
  exact ⟨v', rfl, H1.out, H2.out⟩

theorem wclear_any {N : Nat} {S : Nat → Prop} {w : World} {d room : Nat} {l : List Int} (h : Wn N S w d room l) (hN : N ≤ w.heap.size) :
    Calls Try.prog 16 #[.pointer (some ⟨d, 0, none⟩)] w fun e w' => e = .returned (.tuple #[]) ∧ WTh N S w w' d room [] := by
  obtain ⟨b, cd, hd, hq⟩ := h.cells
  have HI := clear_any hq hN
  have HS : Hid (∀ w' l', Th N (fun i => S i ∧ i ≠ d) w w' b room l' → WTh N S w w' d room l') := fun w' l' ht => h.step hd hN ht
  clear h hq hd
  go_enter Try.func16, Try.ntmps16
  go_wp2_with (go_at_call 35; refine HI.mono ?_; rintro e w1 ⟨rfl, h1⟩; have H1 : Hid _ := h1; clear h1)
  go_end0
  exact ⟨rfl, HS.out _ _ H1.out⟩

theorem full_any {N : Nat} {S : Nat → Prop} {w : World} {d room : Nat} {l : List Int} (h : Wn N S w d room l) :
    Calls Try.prog 19 #[.pointer (some ⟨d, 0, none⟩)] w fun e w' => e = .returned (.bool (decide (l.length = room))) ∧ ∃ n, w' = w.drewN n := by
  obtain ⟨b, cd, hd, hq⟩ := h.cells
  have HR := room_any hq
  have HE : Hid ((((room - l.length : Nat) : Int) == 0) = decide (l.length = room)) := by
    show _ = _
    have := hq.len
    by_cases e : l.length = room
    · simp [e]
    · have : ¬ ((room - l.length : Nat) : Int) = 0 := by omega
      rw [decide_eq_false e]
      simpa using this
  clear h hq hd
  go_enter Try.func19, Try.ntmps19
  go_wp2_with (go_at_call 24; refine HR.mono ?_; rintro e w1 ⟨rfl, n, hn⟩)
  go_ret
  exact ⟨by rw [← HE.out]; rfl, n, rfl⟩

/-- What Free leaves, and how many go. -/
def freeL (l : List Int) (n : Int) : List Int := l.dropWhile (fun x => decide (x ≤ n))

set_option maxRecDepth 100000 in
set_option maxHeartbeats 2000000 in
theorem free_any {N : Nat} {S : Nat → Prop} {w : World} {d room : Nat} {l : List Int} (h : Wn N S w d room l) (hN : N ≤ w.heap.size) (n : Int) :
    Calls Try.prog 15 #[.pointer (some ⟨d, 0, none⟩), .int .i64 n] w fun e w' => e = .returned (.int .i64 ((l.length - (freeL l n).length : Nat) : Int)) ∧ WTh N S w w' d room (freeL l n) := by
  have HL : Hid (l.length ≤ 64) := by show _ ≤ _; have := h.len; omega
  have HT : Hid (WTh N S w w d room l) := by
    obtain ⟨b, cd, hd, hq⟩ := h.cells
    exact h.step hd hN (Th.same hq)
  have HN : Hid (N ≤ w.heap.size) := hN
  clear h hN
  go_enter Try.func15, Try.ntmps15
  go_wp2
  go_loopw [5] (fun gv wr => ∃ (k : Nat) (t : List Int), gv = .int .i64 (k : Int) ∧ k + t.length = l.length ∧ freeL l n = freeL t n ∧ WTh N S w wr d room t) (fun gv _ => l.length - (intOf gv).toNat)
  case atStart => exact ⟨0, l, rfl, by simp, rfl, HT.out⟩
  case round =>
    obtain ⟨k, t, rfl, hk, hf, ht⟩ := hrel
    have HK : Hid (k + t.length = l.length) := hk
    have HF : Hid (freeL l n = freeL t n) := hf
    have HW : Hid (WTh N S w wr d room t) := ht
    have hkl : k ≤ 64 := by have := HL.out; omega
    have hNr : N ≤ wr.heap.size := Nat.le_trans HN.out ht.out.size
    obtain ⟨b, cd, hd, hq⟩ := ht.q.cells
    have HP := peek_any hq
    have HTK := take_any hq hNr
    have HS : Hid (∀ w' l', Th N (fun i => grew S w wr i ∧ i ≠ d) wr w' b room l' → WTh N (grew S w wr) wr w' d room l') := fun w' l' ht' => ht.q.step hd hNr ht'
    have HNr : Hid (N ≤ wr.heap.size) := hNr
    clear hk hf ht hd hq hNr
    cases t with
    | nil =>
      clear HTK
      go_wp2_with (go_at_call 34; refine HP.mono ?_; rintro e w1 ⟨rfl, rfl⟩)
      go_ret
      have h1 := HF.out
      have h2 := HK.out
      have h3 : freeL ([] : List Int) n = [] := rfl
      rw [h1, h3]
      exact ⟨by simp at h2 ⊢; omega, HW.out⟩
    | cons x t =>
      simp only [List.headD_cons, List.isEmpty_cons, Bool.not_false, List.tail_cons] at HP HTK
      by_cases hx : x ≤ n
      · have hgt : decide (n < x) = false := by simpa using hx
        have HX : Hid (freeL (x :: t) n = freeL t n) := by show _ = _; simp [freeL, hx]
        clear hx
        go_wp2_with (first
          | (go_at_call 34; refine HP.mono ?_; rintro e w1 ⟨rfl, hw1⟩; subst w1)
          | (go_at_call 26; refine HTK.mono ?_; rintro e w2 ⟨rfl, hth⟩; have HTH : Hid _ := hth; clear hth))
        have hstep := HS.out _ _ HTH.out
        have hk2 := HK.out
        simp at hk2
        have hl2 := HL.out
        refine ⟨⟨k + 1, t, by go_num, by omega, by rw [HF.out, HX.out], ⟨?_, HW.out.out.step hstep.out⟩⟩, by simp [intOf]; omega⟩
        have hsub : ∀ i, grew (grew S w wr) wr w2 i → grew S w w2 i := by
          rintro i ((hi | hi) | hi)
          · exact .inl hi
          · exact .inr ⟨hi.1, by have := hstep.out.size; omega⟩
          · exact .inr ⟨by have := HW.out.out.size; omega, hi.2⟩
        have hsup : ∀ i, grew S w w2 i → grew (grew S w wr) wr w2 i := by
          rintro i (hi | hi)
          · exact .inl (.inl hi)
          · by_cases hc : i < wr.heap.size
            · exact .inl (.inr ⟨hi.1, hc⟩)
            · exact .inr ⟨by omega, hi.2⟩
        have hsame : grew (grew S w wr) wr w2 = grew S w w2 := funext fun i => propext ⟨hsub i, hsup i⟩
        rw [← hsame]
        exact hstep.q
      · have hgt : decide (n < x) = true := by simpa using hx
        have HX : Hid (freeL (x :: t) n = x :: t) := by show _ = _; simp [freeL, hx]
        clear hx HTK
        go_wp2_with (go_at_call 34; refine HP.mono ?_; rintro e w1 ⟨rfl, rfl⟩)
        go_ret
        have h1 := HF.out
        have h2 := HK.out
        rw [h1, HX.out]
        exact ⟨by show Ending.returned (.int .i64 (k : Int)) = _; rw [show k = l.length - (x :: t).length from by omega], HW.out⟩

end Go.Proofs.Ythaoobfldponpaa
