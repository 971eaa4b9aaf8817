/-
  The calls of a progress, its blocks unnamed; the chapter's example.
-/
import Derived.Test.YtdgaimiggejleaaMf
import Derived.Test.YtdgaimiggejleaaMg
import Derived.Test.YtdgaimiggejleaaCq
namespace Go.Proofs.Ytdgaimiggejleaa
open Go.RowKit
set_option linter.unusedVariables false

/-- A progress lies at b, in blocks from N on. -/
def PE (N : Nat) (w : World) (b : Nat) (p : PP) : Prop := ∃ S, Pg N S w b p

theorem PE.below {N : Nat} {w w' : World} {b : Nat} {p : PP} (h : PE N w b p) (hB : Below w.heap.size w w') : PE N w' b p := h.imp fun _ h => h.below hB
theorem May_E {N : Nat} {w : World} {b : Nat} {p : PP} (h : PE N w b p) (hN : N ≤ w.heap.size) (ho : p.Ok) :
    Calls Try.prog 39 #[.pointer (some ⟨b, 0, none⟩)] w fun e w' => e = .returned (.bool p.may) ∧ PE N w' b p ∧ Below w.heap.size w w' := by
  obtain ⟨S, h⟩ := h
  exact (May_any h hN ho).mono fun e w' h2 => ⟨h2.1, ⟨S, h.below h2.2⟩, h2.2⟩
theorem Sent_E {N : Nat} {w : World} {b : Nat} {p : PP} (h : PE N w b p) (hN : N ≤ w.heap.size) (ho : p.Ok) (x : Int) (hx0 : 0 ≤ x) (hx1 : x ≤ 4611686018427387904) :
    Calls Try.prog 26 #[.pointer (some ⟨b, 0, none⟩), .int .i64 x] w fun e w' => e = .returned (.tuple #[]) ∧ PE N w' b (p.sent x) ∧ Below N w w' := by
  obtain ⟨S, h⟩ := h
  exact (Sent_any h hN ho x hx0 hx1).mono fun e w' h2 => ⟨h2.1, ⟨_, h2.2.q⟩, h2.2.bel hN⟩
theorem Acked_E {N : Nat} {w : World} {b : Nat} {p : PP} (h : PE N w b p) (hN : N ≤ w.heap.size) (ho : p.Ok) (x : Int) (hx0 : 0 ≤ x) (hx1 : x ≤ 4611686018427387904) :
    Calls Try.prog 28 #[.pointer (some ⟨b, 0, none⟩), .int .i64 x] w fun e w' => e = .returned (.bool (decide (p.m < x))) ∧ PE N w' b (p.acked x) ∧ Below N w w' := by
  obtain ⟨S, h⟩ := h
  exact (Acked_any h hN ho x hx0 hx1).mono fun e w' h2 => ⟨h2.1, ⟨_, h2.2.q⟩, h2.2.bel hN⟩
theorem Rejected_E {N : Nat} {w : World} {b : Nat} {p : PP} (h : PE N w b p) (hN : N ≤ w.heap.size) (ho : p.Ok) (x y : Int) (hy0 : 0 ≤ y) (hy1 : y ≤ 4611686018427387904) :
    Calls Try.prog 30 #[.pointer (some ⟨b, 0, none⟩), .int .i64 x, .int .i64 y] w fun e w' => e = .returned (.bool (p.rejY x)) ∧ PE N w' b (p.rej x y) ∧ Below N w w' := by
  obtain ⟨S, h⟩ := h
  exact (Rejected_any h hN ho x y hy0 hy1).mono fun e w' h2 => ⟨h2.1, ⟨_, h2.2.q⟩, h2.2.bel hN⟩
theorem Beat_E {N : Nat} {w : World} {b : Nat} {p : PP} (h : PE N w b p) (hN : N ≤ w.heap.size) (ho : p.Ok) :
    Calls Try.prog 32 #[.pointer (some ⟨b, 0, none⟩)] w fun e w' => e = .returned (.tuple #[]) ∧ PE N w' b p.beat ∧ Below N w w' := by
  obtain ⟨S, h⟩ := h
  exact (Beat_any h hN ho).mono fun e w' h2 => ⟨h2.1, ⟨_, h2.2.q⟩, h2.2.bel hN⟩
theorem Snap_E {N : Nat} {w : World} {b : Nat} {p : PP} (h : PE N w b p) (hN : N ≤ w.heap.size) (x : Int) :
    Calls Try.prog 34 #[.pointer (some ⟨b, 0, none⟩), .int .i64 x] w fun e w' => e = .returned (.tuple #[]) ∧ PE N w' b (p.snap x) ∧ Below N w w' := by
  obtain ⟨S, h⟩ := h
  exact (Snap_any h hN x).mono fun e w' h2 => ⟨h2.1, ⟨_, h2.2.q⟩, h2.2.bel hN⟩
theorem Match_E {N : Nat} {w : World} {b : Nat} {p : PP} (h : PE N w b p) : Calls Try.prog 36 #[.pointer (some ⟨b, 0, none⟩)] w fun e w' => e = .returned (.int .i64 p.m) ∧ w' = w := by
  obtain ⟨S, h⟩ := h
  exact Match_any h
theorem Next_E {N : Nat} {w : World} {b : Nat} {p : PP} (h : PE N w b p) : Calls Try.prog 37 #[.pointer (some ⟨b, 0, none⟩)] w fun e w' => e = .returned (.int .i64 p.n) ∧ w' = w := by
  obtain ⟨S, h⟩ := h
  exact Next_any h
theorem State_E {N : Nat} {w : World} {b : Nat} {p : PP} (h : PE N w b p) : Calls Try.prog 38 #[.pointer (some ⟨b, 0, none⟩)] w fun e w' => e = .returned (.int .i64 p.st) ∧ w' = w := by
  obtain ⟨S, h⟩ := h
  exact State_any h

theorem cmt539 : cmt [5, 3, 9] = 5 := by
  have h1 : (5 : Int) ≤ cmt [5, 3, 9] := cmt_top (by decide) (by decide) (by decide)
  have h2 := cmt_mem (l := [5, 3, 9]) (by decide) (by decide)
  have h3 := cmt_have (l := [5, 3, 9]) (by decide) (by decide)
  simp only [List.mem_cons, List.not_mem_nil, or_false] at h2
  rcases h2 with h2 | h2 | h2
  · exact h2
  · omega
  · rw [h2] at h3; exact absurd h3 (by decide)

theorem sl539 (w : World) : Sl (w.heap.size + 1) (w.alloc (.cells #[.int .i64 5, .int .i64 3, .int .i64 9] 3)) (.slice (some ⟨w.heap.size, 0, none⟩) 3 3) [5, 3, 9] := by
  have h := heap_alloc_new w (.cells #[.int .i64 5, .int .i64 3, .int .i64 9] 3)
  refine ⟨_, 3, rfl, by decide, by unfold maxLen; omega, .inr ⟨_, 0, rfl, by omega, fun i hi => ?_⟩⟩
  have hi' : i < 3 := by simpa using hi
  have hc : i = 0 ∨ i = 1 ∨ i = 2 := by omega
  rcases hc with rfl | rfl | rfl <;> (simp only [World.cell?, h]; rfl)

def pF0 : PP := ⟨0, 0, 8, false, 0, [], 2⟩
def pF1 : PP := ⟨0, 0, 8, true, 0, [], 2⟩
def pF2 : PP := ⟨0, 0, 4, false, 0, [], 2⟩
def pF3 : PP := ⟨0, 0, 4, true, 0, [], 2⟩
def pF4 : PP := ⟨1, 3, 4, false, 0, [], 2⟩

set_option maxRecDepth 100000 in
set_option maxHeartbeats 4000000 in
theorem first_any (w : World) : Calls Try.prog 9 #[] w fun e w' => e = .returned (.bool true) ∧ Below w.heap.size w w' := by
  have HNP : Hid (Calls Try.prog 23 #[.int .i64 8, .int .i64 2] w fun e w' => ∃ b, e = .returned (.pointer (some ⟨b, 0, none⟩)) ∧ PE w.heap.size w' b pF0 ∧ Below w.heap.size w w') :=
    (NewProgress_any w.heap.size 2 8 w (by omega) (by omega) (Nat.le_refl _)).mono fun e w' ⟨b, S, h1, h2, h3, h4⟩ => ⟨b, h1, ⟨S, h2⟩, h3⟩
  have HQ : Hid (∀ w1, Calls Try.prog 12 #[.int .i64 5] w1 fun e w' => e = .returned (.int .i64 3) ∧ w' = w1) := fun w1 => Quorum_any 5 w1
  have HC : Hid (∀ w1 : World, Calls Try.prog 10 #[.slice (some ⟨w1.heap.size, 0, none⟩) 3 3] (w1.alloc (.cells #[.int .i64 5, .int .i64 3, .int .i64 9] 3)) fun e w' => e = .returned (.int .i64 5) ∧ Below w1.heap.size w1 w') := fun w1 =>
    (Commit_any _ _ _ _ (sl539 w1)).mono fun e w' h => ⟨by rw [h.1, cmt539], ((Below.refl _ w1).alloc (Nat.le_refl _) _).trans (h.2.mono (by simp))⟩
  have HS1 : Hid (∀ w1 b, PE w.heap.size w1 b pF0 → w.heap.size ≤ w1.heap.size → Calls Try.prog 26 #[.pointer (some ⟨b, 0, none⟩), .int .i64 9] w1 fun e w' => e = .returned (.tuple #[]) ∧ PE w.heap.size w' b pF1 ∧ Below w.heap.size w1 w') := fun w1 b h hN => Sent_E h hN ⟨by decide, by decide, by decide, by decide, by decide, by decide⟩ 9 (by omega) (by omega)
  have HM1 : Hid (∀ w1 b, PE w.heap.size w1 b pF1 → w.heap.size ≤ w1.heap.size → Calls Try.prog 39 #[.pointer (some ⟨b, 0, none⟩)] w1 fun e w' => e = .returned (.bool false) ∧ PE w.heap.size w' b pF1 ∧ Below w1.heap.size w1 w') := fun w1 b h hN => May_E h hN ⟨by decide, by decide, by decide, by decide, by decide, by decide⟩
  have HR1 : Hid (∀ w1 b, PE w.heap.size w1 b pF1 → w.heap.size ≤ w1.heap.size → Calls Try.prog 30 #[.pointer (some ⟨b, 0, none⟩), .int .i64 6, .int .i64 3] w1 fun e w' => e = .returned (.bool false) ∧ PE w.heap.size w' b pF1 ∧ Below w.heap.size w1 w') := fun w1 b h hN => Rejected_E h hN ⟨by decide, by decide, by decide, by decide, by decide, by decide⟩ 6 3 (by omega) (by omega)
  have HR2 : Hid (∀ w1 b, PE w.heap.size w1 b pF1 → w.heap.size ≤ w1.heap.size → Calls Try.prog 30 #[.pointer (some ⟨b, 0, none⟩), .int .i64 7, .int .i64 3] w1 fun e w' => e = .returned (.bool true) ∧ PE w.heap.size w' b pF2 ∧ Below w.heap.size w1 w') := fun w1 b h hN => Rejected_E h hN ⟨by decide, by decide, by decide, by decide, by decide, by decide⟩ 7 3 (by omega) (by omega)
  have HS2 : Hid (∀ w1 b, PE w.heap.size w1 b pF2 → w.heap.size ≤ w1.heap.size → Calls Try.prog 26 #[.pointer (some ⟨b, 0, none⟩), .int .i64 3] w1 fun e w' => e = .returned (.tuple #[]) ∧ PE w.heap.size w' b pF3 ∧ Below w.heap.size w1 w') := fun w1 b h hN => Sent_E h hN ⟨by decide, by decide, by decide, by decide, by decide, by decide⟩ 3 (by omega) (by omega)
  have HA : Hid (∀ w1 b, PE w.heap.size w1 b pF3 → w.heap.size ≤ w1.heap.size → Calls Try.prog 28 #[.pointer (some ⟨b, 0, none⟩), .int .i64 3] w1 fun e w' => e = .returned (.bool true) ∧ PE w.heap.size w' b pF4 ∧ Below w.heap.size w1 w') := fun w1 b h hN => Acked_E h hN ⟨by decide, by decide, by decide, by decide, by decide, by decide⟩ 3 (by omega) (by omega)
  have HE1 : Hid (∀ w1 b, PE w.heap.size w1 b pF4 → Calls Try.prog 38 #[.pointer (some ⟨b, 0, none⟩)] w1 fun e w' => e = .returned (.int .i64 1) ∧ w' = w1) := fun w1 b h => State_E h
  have HE2 : Hid (∀ w1 b, PE w.heap.size w1 b pF4 → Calls Try.prog 37 #[.pointer (some ⟨b, 0, none⟩)] w1 fun e w' => e = .returned (.int .i64 4) ∧ w' = w1) := fun w1 b h => Next_E h
  have HE3 : Hid (∀ w1 b, PE w.heap.size w1 b pF4 → Calls Try.prog 36 #[.pointer (some ⟨b, 0, none⟩)] w1 fun e w' => e = .returned (.int .i64 3) ∧ w' = w1) := fun w1 b h => Match_E h
  go_enter Try.func9, Try.ntmps9
  go_wp2_with fail
  refine HNP.out.mono ?_
  rintro r w1 ⟨b, rfl, hP, hB⟩
  have HP1 : Hid (PE w.heap.size w1 b pF0) := hP
  have HB1 : Hid (Below w.heap.size w w1) := hB
  clear hP hB HNP
  go_wp2_with (go_at_call 12; refine (HQ.out _).mono ?_; rintro r wq ⟨rfl, hwq⟩; subst wq)
  refine (HC.out w1).mono ?_
  rintro r w2 ⟨rfl, hB2⟩
  have HP2 : Hid (PE w.heap.size w2 b pF0) := HP1.out.below hB2
  have HB2 : Hid (Below w.heap.size w w2) := HB1.out.trans (hB2.mono HB1.out.size)
  clear hB2 HC HQ HP1 HB1
  go_wp2_with fail
  refine (HS1.out w2 b HP2.out HB2.out.size).mono ?_
  rintro r w3 ⟨rfl, hP, hB⟩
  have HP3 : Hid (PE w.heap.size w3 b pF1) := hP
  have HB3 : Hid (Below w.heap.size w w3) := HB2.out.trans hB
  clear hP hB HS1 HP2 HB2
  go_wp2_with fail
  refine (HM1.out w3 b HP3.out HB3.out.size).mono ?_
  rintro r w4 ⟨rfl, hP, hB⟩
  have HP4 : Hid (PE w.heap.size w4 b pF1) := hP
  have HB4 : Hid (Below w.heap.size w w4) := HB3.out.trans (hB.mono HB3.out.size)
  clear hP hB HM1 HP3 HB3
  go_wp2_with fail
  refine (HR1.out w4 b HP4.out HB4.out.size).mono ?_
  rintro r w5 ⟨rfl, hP, hB⟩
  have HP5 : Hid (PE w.heap.size w5 b pF1) := hP
  have HB5 : Hid (Below w.heap.size w w5) := HB4.out.trans hB
  clear hP hB HR1 HP4 HB4
  go_wp2_with fail
  refine (HR2.out w5 b HP5.out HB5.out.size).mono ?_
  rintro r w6 ⟨rfl, hP, hB⟩
  have HP6 : Hid (PE w.heap.size w6 b pF2) := hP
  have HB6 : Hid (Below w.heap.size w w6) := HB5.out.trans hB
  clear hP hB HR2 HP5 HB5
  go_wp2_with fail
  refine (HS2.out w6 b HP6.out HB6.out.size).mono ?_
  rintro r w7 ⟨rfl, hP, hB⟩
  have HP7 : Hid (PE w.heap.size w7 b pF3) := hP
  have HB7 : Hid (Below w.heap.size w w7) := HB6.out.trans hB
  clear hP hB HS2 HP6 HB6
  go_wp2_with fail
  refine (HA.out w7 b HP7.out HB7.out.size).mono ?_
  rintro r w8 ⟨rfl, hP, hB⟩
  have HP8 : Hid (PE w.heap.size w8 b pF4) := hP
  have HB8 : Hid (Below w.heap.size w w8) := HB7.out.trans hB
  clear hP hB HA HP7 HB7
  go_wp2_with (first
    | (go_at_call 38; refine (HE1.out _ _ HP8.out).mono ?_; rintro r wq ⟨rfl, hwq⟩; subst wq)
    | (go_at_call 37; refine (HE2.out _ _ HP8.out).mono ?_; rintro r wq ⟨rfl, hwq⟩; subst wq)
    | (go_at_call 36; refine (HE3.out _ _ HP8.out).mono ?_; rintro r wq ⟨rfl, hwq⟩; subst wq))
  go_ret
  exact ⟨rfl, HB8.out⟩
end Go.Proofs.Ytdgaimiggejleaa
