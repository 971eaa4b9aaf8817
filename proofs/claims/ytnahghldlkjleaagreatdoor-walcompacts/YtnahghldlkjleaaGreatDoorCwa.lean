/-
  A wal newer than a world, whose files hold what it wrote: Open, Append, Sync, Compact of it.
-/
import Derived.Test.YtnahghldlkjleaaGreatDoorPc
import Derived.Test.YtnahghldlkjleaaGreatDoorCop
import Derived.Test.YtnahghldlkjleaaGreatDoorXX
import Derived.Test.YtnahghldlkjleaaGreatDoorZa
import Derived.Test.YtnahghldlkjleaaGreatDoorSma
namespace Go.Proofs.YtnahghldlkjleaaGreatDoor
open Go.RowKit
set_option linter.unusedVariables false

structure Nw (w0 w : World) (wb d : Nat) (X : WS) : Prop where
  q : ∃ A, Wl A w wb d X ∧ ∀ i, A i → w0.heap.size ≤ i
  B : Below w0.heap.size w0 w
theorem Nw.below {w0 w w' : World} {wb d : Nat} {X : WS} (h : Nw w0 w wb d X) (hB : Below w.heap.size w w') : Nw w0 w' wb d X := by
  obtain ⟨⟨A, h1, h2⟩, h3⟩ := h
  exact ⟨⟨A, h1.below hB, h2⟩, h3.trans (hB.mono h3.size)⟩
theorem Nw.th {A : Nat → Prop} {w0 w w' : World} {wb d : Nat} {X' : WS} (hA : ∀ i, A i → w0.heap.size ≤ i) (hB : Below w0.heap.size w0 w) (h : Wth A w w' wb d X') : Nw w0 w' wb d X' := by
  refine ⟨⟨_, h.q, ?_⟩, hB.trans (h.out.below hB.size hA)⟩
  rintro i (hi | hi)
  · exact hA i hi
  · exact Nat.le_trans hB.size hi.1

/-- The first wal of a new disk. -/
def XN (n : Nat) : WS := ((⟨p00, n, [], LP0, false⟩ : WS).begun 1 p01).headed p03
theorem XN_sg (n : Nat) : (XN n).sg = [⟨1, (txsB [LP0.head 1]).length⟩] ∧ (XN n).p = p03 ∧ (XN n).full = n ∧ (XN n).J = LP0 ∧ (XN n).br = false ∧ (XN n).last = ⟨1, (txsB [LP0.head 1]).length⟩ := by
  simp [XN, WS.begun, WS.headed, WS.grow, WS.last]
theorem LP0_good : LP0.Good 1 := ⟨LP0_ok, by simp [LP0], by simp [LP0]⟩
theorem XN_wi (n : Nat) : WI (XN n) [[LP0.head 1]] 80 0 (fun _ => none) := by
  obtain ⟨e1, e2, e3, e4, e5, e6⟩ := XN_sg n
  have c0 : Calm p00 := ⟨rfl, rfl, by simp [p00]⟩
  have hd0 : ∀ y, datP p00 y = none := fun y => rfl
  have h1 := create_did c0 (isNm_nm 1) (hd0 _) (by simp [p00])
  rw [do01] at h1
  obtain ⟨⟨-, a2, a3, a4⟩, a5⟩ := h1
  have hm : datP p01 (nmL 1) = some [] := by rw [a3]; simp
  have hh := txsB_one (LP0.head 1) rfl
  have s0 : sumP p00.fs = 0 := rfl
  have h2 := append_did a2 (nm := nmL 1) (b := txsB [LP0.head 1]) (by rw [hm]; rfl) (by rw [a5, s0]; omega)
  rw [do02] at h2
  obtain ⟨⟨-, b2, b3, b4⟩, b5⟩ := h2
  have hm2 : datP p02 (nmL 1) = some (txsB [LP0.head 1]) := by rw [b3, if_pos rfl, hm]; rfl
  have h3 := sync_did b2 (nm := nmL 1) (by rw [hm2]; rfl)
  rw [do03] at h3
  obtain ⟨⟨-, d2, d3, d4⟩, d5⟩ := h3
  have hdat : ∀ y, y ≠ nmL 1 → datP p03 y = none := fun y hy => by rw [d3, b3, if_neg hy, a3, if_neg hy, hd0]
  refine ⟨e5, by rw [e2]; exact d2, by rw [e1]; simp, by rw [e1]; rfl, ⟨1, Nat.le_refl _, by rw [e1]; rfl⟩, by rw [e6]; show 1 ≤ _; omega, ?_, ?_, ?_, ?_, ?_, ?_, ?_⟩
  · intro i hi hi'
    have hi0 : i = 0 := by simp at hi'; omega
    subst hi0
    have e9 : (XN n).sg[0]'hi = ⟨1, (txsB [LP0.head 1]).length⟩ := by simp [e1]
    show Holds (XN n).p ((XN n).sg[0]'hi) [LP0.head 1]
    rw [e9, e2]
    refine ⟨by show datP p03 (nmL 1) = _; rw [d3]; exact hm2, rfl, by simp, fun r hr => ?_⟩
    obtain rfl := List.mem_singleton.1 hr
    exact head_numB LP0_ok (by omega)
  · intro k k1 k2 hk
    rw [e2]
    refine hdat _ (fun e => hk ?_)
    rw [nm_inj k2 (by omega) e, e1]; simp
  · intro y hy
    rw [e2]
    exact hdat y (fun e => by rw [e, num_nm (by omega)] at hy; omega)
  · rw [e2, d4, b4, a4, e1]; simp [p00]
  · rw [e2, d5]
    omega
  · intro s hs
    rw [e1] at hs
    obtain rfl := List.mem_singleton.1 hs
    exact Nat.le_trans hh (by omega)
  · rw [e4, e6]; exact LP0_good

/-- A wal of which all is known. -/
structure Wv (w0 w : World) (wb d : Nat) (X : WS) (H : List (List Rd)) (T o : Nat) (F : List UInt8 → Option (List UInt8)) : Prop where
  nw : Nw w0 w wb d X
  wi : WI X H T o F
theorem Wv.below {w0 w w' : World} {wb d : Nat} {X : WS} {H T o F} (h : Wv w0 w wb d X H T o F) (hB : Below w.heap.size w w') : Wv w0 w' wb d X H T o F := ⟨h.nw.below hB, h.wi⟩

theorem wv_open {w w1 : World} {d : Nat} (hv : Vars w) (h : ∃ S k, DkC S w1 d k ∧ k.pd = p00 ∧ (∀ i, S i → w.heap.size ≤ i) ∧ Below w.heap.size w w1) (n : Nat) (hn : 64 ≤ n ∧ n ≤ 1048576) :
    Calls Tryz.prog 30 #[.pointer (some ⟨d, 0, none⟩), .int .i64 (n : Int)] w1 fun e w' => ∃ wb, e = .returned (.tuple #[.pointer (some ⟨wb, 0, none⟩), .bool false, .int .i64 0]) ∧ Wv w w' wb d (XN n) [[LP0.head 1]] 80 0 (fun _ => none) := by
  obtain ⟨S, k, hd, hp, hS, hB⟩ := h
  refine (Open_new hd (fun V hV => ?_) n hn ?_ ⟨p00, n, [], LP0, false⟩ (XN n) (by rw [hp]) p01 p02 p03 (by rw [hp]; exact do01) do02 do03 rfl).mono ?_
  · exact hv.below (hB.trans (hV.below hB.size hS))
  · rw [hp]
    exact fun f hf => by cases hf
  · rintro e w' ⟨A, wb, rfl, h1, h2, h3⟩
    exact ⟨wb, rfl, ⟨⟨A, h1, fun i hi => (h3 i hi).elim (hS i) (fun h => Nat.le_trans hB.size h)⟩, hB.trans (h2.below hB.size hS)⟩, XN_wi n⟩

theorem wv_append {w0 w : World} {wb d : Nat} {X : WS} {H T o F} (h : Wv w0 w wb d X H T o F) (B : Bt) (hes : EntsAt w0.heap.size w0 B.a B.es) (hcp : B.es.length ≤ B.cp ∧ B.cp ≤ maxLen) (hlen : B.es.length ≤ 200) (ht : X.last.n + 1 ≤ 99999999) (hc : X.sg.length + o < 256) (hT : T + (320 + 80 * wtE B.es) ≤ 16777216) (hE : X.J.E.length ≤ 100000000) :
    Calls Tryz.prog 34 #[.pointer (some ⟨wb, 0, none⟩), B.val] w fun e w' => ∃ k : Nat, e = .returned (.int .i64 (k : Int)) ∧ ((k = 0 ∧ B.chk X.J = 0 ∧ Wv w0 w' wb d (X.put B) (X.hput H B) (T + (320 + 80 * wtE B.es)) o F ∧ (X.put B).sg.length ≤ X.sg.length + 1 ∧ (X.put B).last.n ≤ X.last.n + 1 ∧ (X.put B).full = X.full ∧ (X.put B).J.E.length ≤ X.J.E.length + B.es.length + 3) ∨ (k = B.chk X.J ∧ k ≠ 0 ∧ Wv w0 w' wb d X H T o F)) := by
  obtain ⟨⟨⟨A, hq, hA⟩, hB⟩, hwi⟩ := h
  by_cases hck : B.chk X.J = 0
  · obtain ⟨ok, p1, p2, p3, p4, p5, p6⟩ := put_wi hwi hck ht hc hT hlen hcp hE
    refine (append_ok hq hwi.br B hck ok (fun W hW => ?_)).mono ?_
    · have hBW := hB.trans (hW.below hB.size hA)
      exact (hes.below hBW).mono hBW.size
    · rintro e w' ⟨rfl, hT'⟩
      rw [p1.mark] at hT'
      exact ⟨0, rfl, .inl ⟨rfl, hck, ⟨Nw.th hA hB hT', p1⟩, p2, p3, p5, p6⟩⟩
  · refine (append_err hq hwi.br B hck ((hes.below hB).mono hB.size) hcp (by omega)).mono ?_
    rintro e w' ⟨rfl, hB'⟩
    exact ⟨_, rfl, .inr ⟨rfl, hck, Wv.below ⟨⟨⟨A, hq, hA⟩, hB⟩, hwi⟩ hB'⟩⟩

/-- The wal between the first operations of a law. -/
def Cwi (w0 wr : World) (wb d n i t : Nat) : Prop := ∃ X H, Wv w0 wr wb d X H (80 + 320 * i + 80 * t) 0 (fun _ => none) ∧ X.sg.length ≤ i + 1 ∧ X.last.n ≤ i + 1 ∧ X.J.E.length ≤ t + 3 * i ∧ X.full = n
theorem cwi_open {w0 w : World} {wb d n : Nat} (h : Wv w0 w wb d (XN n) [[LP0.head 1]] 80 0 (fun _ => none)) : Cwi w0 w wb d n 0 0 := by
  obtain ⟨e1, e2, e3, e4, e5, e6⟩ := XN_sg n
  exact ⟨_, _, h, by rw [e1]; simp, by rw [e6]; exact Nat.le_refl _, by rw [e4]; simp [LP0], e3⟩
theorem Cwi.skip {w0 w w' : World} {wb d n i t : Nat} (h : Cwi w0 w wb d n i t) (hB : Below w.heap.size w w') (x : Nat) : Cwi w0 w' wb d n (i + 1) (t + x) := by
  obtain ⟨X, H, hv, h1, h2, h3, h4⟩ := h
  exact ⟨X, H, ⟨hv.nw.below hB, hv.wi.mono (by omega)⟩, by omega, by omega, by omega, h4⟩
theorem cwi_append {w0 w : World} {wb d n i t : Nat} (h : Cwi w0 w wb d n i t) (B : Bt) (hes : EntsAt w0.heap.size w0 B.a B.es) (hcp : B.es.length ≤ B.cp ∧ B.cp ≤ maxLen) (hlen : B.es.length ≤ 200) (hi : i < 200) (ht : t + wtE B.es ≤ 20000) :
    Calls Tryz.prog 34 #[.pointer (some ⟨wb, 0, none⟩), B.val] w fun e w' => ∃ k : Nat, e = .returned (.int .i64 (k : Int)) ∧ Cwi w0 w' wb d n (i + 1) (t + wtE B.es) := by
  obtain ⟨X, H, hv, h1, h2, h3, h4⟩ := h
  have hw := wtE_len B.es
  refine (wv_append hv B hes hcp hlen (by omega) (by omega) (by omega) (by omega)).mono ?_
  rintro e w' ⟨k, rfl, ⟨-, -, hv', s1, s2, s3, s4⟩ | ⟨-, -, hv'⟩⟩
  · exact ⟨k, rfl, _, _, ⟨hv'.nw, hv'.wi.mono (by omega)⟩, by omega, by omega, by omega, by rw [s3]; exact h4⟩
  · exact ⟨k, rfl, X, H, ⟨hv'.nw, hv'.wi.mono (by omega)⟩, by omega, by omega, by omega, h4⟩
end Go.Proofs.YtnahghldlkjleaaGreatDoor
