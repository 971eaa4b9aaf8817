/-
  A queue, a window, lanes of which the document fixes all.
-/
import Derived.Test.YthaoobfldponpaaLn
import Derived.Test.YthaoobfldponpaaWi
namespace Go.Proofs.Ythaoobfldponpaa
open Go.RowKit
set_option linter.unusedVariables false

theorem Th.trans {N : Nat} {S : Nat → Prop} {w wr w2 : World} {b room : Nat} {l l2 : List Int} (h : Th N S w wr b room l) (k : Th N (grew S w wr) wr w2 b room l2) : Th N S w w2 b room l2 :=
  ⟨by rw [← grew_grew h.out.size k.out.size]; exact k.q, h.out.step k.out⟩
theorem WTh.trans {N : Nat} {S : Nat → Prop} {w wr w2 : World} {b room : Nat} {l l2 : List Int} (h : WTh N S w wr b room l) (k : WTh N (grew S w wr) wr w2 b room l2) : WTh N S w w2 b room l2 :=
  ⟨by rw [← grew_grew h.out.size k.out.size]; exact k.q, h.out.step k.out⟩

theorem Snewlanes (w : World) (N : Nat) (hN : N ≤ w.heap.size) : Calls Try.prog 30 #[.int .i64 3, .int .i64 2] w fun e w' => e = .returned (.pointer (some ⟨w.heap.size + 1 + 3, 0, none⟩)) ∧ SLa N (fun i => w.heap.size ≤ i ∧ i < w.heap.size + 5) w' (w.heap.size + 1 + 3) 3 2 0 (fun _ => []) ∧ Below w.heap.size w w' :=
  SnewLanes_any N 3 2 w hN (by omega) (by omega) (by omega) (by omega)
def ls1 : Nat → List (List UInt8) := upd (fun _ => []) 2 [[99]]
theorem Slput2 {N : Nat} {S : Nat → Prop} {w : World} {d : Nat} (h : SLa N S w d 3 2 0 (fun _ => [])) (hN : N ≤ w.heap.size) : Calls Try.prog 31 #[.pointer (some ⟨d, 0, none⟩), .int .i64 2, .string ⟨#[99]⟩] w fun e w' => e = .returned (.bool true) ∧ SLTh N S w w' d 3 2 0 ls1 :=
  (Slput_any h hN 2 (by omega) [99]).mono (fun e w' h => h)
theorem Sltake2 {N : Nat} {S : Nat → Prop} {w : World} {d : Nat} (h : SLa N S w d 3 2 0 ls1) (hN : N ≤ w.heap.size) : Calls Try.prog 32 #[.pointer (some ⟨d, 0, none⟩)] w fun e w' => e = .returned (.tuple #[.int .i64 2, .string ⟨#[99]⟩, .bool true]) ∧ SLTh N S w w' d 3 2 3 (upd ls1 2 []) :=
  (Sltake_any h hN 2 (by omega) (fun k hk => by
    match k, hk with
    | 0, _ => rfl
    | 1, _ => rfl) [99] [] rfl).mono (fun e w' h => h)

set_option maxRecDepth 100000 in
set_option maxHeartbeats 4000000 in
theorem first_any (w : World) : Calls Try.prog 9 #[] w fun e w' => e = .returned (.bool true) ∧ Below w.heap.size w w' := by
  go_enter Try.func9, Try.ntmps9
  go_wp2_with fail
  refine (new_any 2 w (by omega) (by omega)).mono ?_
  rintro e w1 ⟨rfl, hw1⟩
  have hq1 : Qu w.heap.size (fun i => i = w.heap.size) w1 w.heap.size 2 [] := by rw [hw1]; exact new_qu w.heap.size 2 w (Nat.le_refl _) (by omega)
  have hB1 : Below w.heap.size w w1 := by rw [hw1]; exact (Below.refl _ w).alloc (Nat.le_refl _) _
  have hz1 : w1.heap.size = w.heap.size + 1 := by rw [hw1]; simp
  clear hw1
  have HQ1 : Hid _ := hq1
  have HB1 : Hid _ := hB1
  have HZ1 : Hid _ := hz1
  clear hq1 hB1 hz1
  go_wp2_with fail
  refine (newWindow_any w.heap.size 2 w1 (by omega) (by omega) HB1.out.size).mono ?_
  rintro e w2 ⟨rfl, hn2, hB2⟩
  have HN2 : Hid _ := hn2
  have HB2 : Hid (Below w.heap.size w w2) := HB1.out.trans (hB2.mono HB1.out.size)
  have HQ2 : Hid _ := HQ1.out.below hB2
  have HZ2 : Hid (w1.heap.size + 2 ≤ w2.heap.size) := by
    show _ ≤ _
    have := hn2.inn (w1.heap.size + 1) ⟨by omega, by omega⟩
    omega
  clear hn2 hB2
  obtain ⟨dw, HDW⟩ : ∃ dw, Hid (w1.heap.size + 1 = dw) := ⟨_, rfl⟩
  rw [HDW.out] at HN2 ⊢
  go_wp2_with fail
  refine (Snewlanes w2 w.heap.size HB2.out.size).mono ?_
  rintro e w3 ⟨rfl, hl3, hB3⟩
  have HL3 : Hid _ := hl3
  have HB3 : Hid (Below w.heap.size w w3) := HB2.out.trans (hB3.mono HB2.out.size)
  have HQ3 : Hid _ := HQ2.out.below hB3
  have HN3 : Hid _ := HN2.out.below hB3
  clear hl3 hB3 HQ1 HQ2 HN2
  obtain ⟨dl, HDL⟩ : ∃ dl, Hid (w2.heap.size + 1 + 3 = dl) := ⟨_, rfl⟩
  rw [HDL.out] at HL3 ⊢
  go_wp2_with fail
  refine (new_none 0 w3 (by decide)).mono ?_
  rintro e w4 ⟨rfl, hw4⟩
  subst w4
  go_wp2_with fail
  refine (put_any HQ3.out HB3.out.size 5).mono ?_
  rintro e w5 ⟨rfl, t5⟩
  have T5 : Hid (Th w.heap.size (fun i => i = w.heap.size) w3 w5 w.heap.size 2 [5]) := t5
  have hN5 : w.heap.size ≤ w5.heap.size := Nat.le_trans HB3.out.size t5.out.size
  clear t5
  go_wp2_with fail
  refine (put_any T5.out.q hN5 6).mono ?_
  rintro e w6 ⟨rfl, t6⟩
  have T6 : Hid (Th w.heap.size (fun i => i = w.heap.size) w3 w6 w.heap.size 2 [5, 6]) := T5.out.trans t6
  have hN6 : w.heap.size ≤ w6.heap.size := Nat.le_trans hN5 t6.out.size
  clear t6 T5 hN5
  go_wp2_with fail
  refine (put_any T6.out.q hN6 7).mono ?_
  rintro e w7 ⟨rfl, t7⟩
  have T7 : Hid (Th w.heap.size (fun i => i = w.heap.size) w3 w7 w.heap.size 2 [5, 6]) := T6.out.trans t7
  have hN7 : w.heap.size ≤ w7.heap.size := Nat.le_trans hN6 t7.out.size
  clear t7 T6 hN6
  go_wp2_with fail
  refine (take_any T7.out.q hN7).mono ?_
  rintro e w8 ⟨rfl, t8⟩
  have T8 : Hid (Th w.heap.size (fun i => i = w.heap.size) w3 w8 w.heap.size 2 [6]) := T7.out.trans t8
  have HB8 : Hid (Below w.heap.size w w8) := HB3.out.trans (T8.out.bel HB3.out.size)
  clear t8 T7 hN7
  have HN8 : Hid _ := HN3.out.out T8.out.out (fun i h1 h2 => by have := HZ1.out; omega)
  have HL8 : Hid (SLa w.heap.size (fun i => w2.heap.size ≤ i ∧ i < w2.heap.size + 5) w8 dl 3 2 0 (fun _ => [])) := SLa.out HL3.out T8.out.out (fun i h1 h2 => by have := HZ1.out; have := HZ2.out; omega)
  have hS8 := T8.out.out.size
  clear T8 HN3 HL3 HB3
  go_wp2_with fail
  refine (add_any HN8.out HB8.out.size 3).mono ?_
  rintro e w9 ⟨rfl, t9⟩
  have T9 : Hid (WTh w.heap.size (fun i => w1.heap.size ≤ i ∧ i < w1.heap.size + 2) w8 w9 dw 2 [3]) := t9
  have hN9 : w.heap.size ≤ w9.heap.size := Nat.le_trans HB8.out.size t9.out.size
  clear t9
  go_wp2_with fail
  refine (add_any T9.out.q hN9 3).mono ?_
  rintro e w10 ⟨rfl, t10⟩
  have T10 : Hid (WTh w.heap.size (fun i => w1.heap.size ≤ i ∧ i < w1.heap.size + 2) w8 w10 dw 2 [3]) := T9.out.trans t10
  have HB10 : Hid (Below w.heap.size w w10) := HB8.out.trans (T10.out.bel HB8.out.size)
  clear t10 T9 hN9
  have HL10 : Hid (SLa w.heap.size (fun i => w2.heap.size ≤ i ∧ i < w2.heap.size + 5) w10 dl 3 2 0 (fun _ => [])) := SLa.out HL8.out T10.out.out (fun i h1 h2 => by have := HZ2.out; omega)
  clear T10 HN8 HL8 HB8
  go_wp2_with fail
  refine (Slput2 HL10.out HB10.out.size).mono ?_
  rintro e w11 ⟨rfl, t11⟩
  have HB11 : Hid (Below w.heap.size w w11) := HB10.out.trans (t11.bel HB10.out.size)
  have T11 : Hid _ := t11.q
  clear t11
  go_wp2_with fail
  refine (Sltake2 T11.out HB11.out.size).mono ?_
  rintro e w12 ⟨rfl, t12⟩
  have HB12 : Hid (Below w.heap.size w w12) := HB11.out.trans (t12.bel HB11.out.size)
  clear t12
  go_wp2
  go_ret
  exact ⟨rfl, HB12.out⟩

end Go.Proofs.Ythaoobfldponpaa
