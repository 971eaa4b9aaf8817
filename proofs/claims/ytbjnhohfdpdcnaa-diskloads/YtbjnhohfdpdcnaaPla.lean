/-
  DiskPlays: the walk of the law.
-/
import Derived.Test.YtbjnhohfdpdcnaaSmw
import Derived.Test.YtbjnhohfdpdcnaaDo0
import Derived.Test.YtbjnhohfdpdcnaaDo1
import Derived.Test.YtbjnhohfdpdcnaaJb
import Derived.Test.YtbjnhohfdpdcnaaDo6
import Derived.Test.YtbjnhohfdpdcnaaDo8
namespace Go.Proofs.Ytbjnhohfdpdcnaa
open Go.RowKit Go.Shelf
set_option linter.unusedVariables false

/-- An operation of both disks. -/
theorem does_any {N : Nat} {S1 S2 : Nat → Prop} {w0 w : World} {d B : Nat} {p : PD} (h : Bth N S1 S2 w0 w d B p) (o : Opn) (hx : Sl N w o.x o.b) (h1 : o.nm.length ≤ maxLen) (h2 : o.to.length ≤ maxLen) (h3 : o.n < 9223372036854775808) (hbl : o.b.length ≤ 140737488351232) :
    Calls Try.prog 12 #[.pointer (some ⟨d, 0, none⟩), .pointer (some ⟨B, 0, none⟩), .agg #[.int .i64 o.kd, .int .i64 o.n, .string ⟨o.nm.toArray⟩, .string ⟨o.to.toArray⟩, o.x]] w fun r w' => r = .returned (.bool true) ∧ ∃ S3 S4, Bth N S3 S4 w0 w' d B (toldP p o).2 := by
  obtain ⟨kd, n, nm, to, a, c, b⟩ := o
  unfold Opn.x at hx ⊢
  simp only at hx h1 h2 h3 hbl ⊢
  by_cases k0 : kd = 0
  · subst k0; exact does_0 h n nm to a c b h1 h2 h3
  by_cases k1 : kd = 1
  · subst k1; exact does_1 h n nm to a c b h1 h2 h3 hx hbl
  by_cases k2 : kd = 2
  · subst k2; exact does_2 h n nm to a c b h1 h2 h3
  by_cases k3 : kd = 3
  · subst k3; exact does_3 h n nm to a c b h1 h2 h3
  by_cases k4 : kd = 4
  · subst k4; exact does_4 h n nm to a c b h1 h2 h3
  by_cases k5 : kd = 5
  · subst k5; exact does_5 h n nm to a c b h1 h2 h3
  by_cases k6 : kd = 6
  · subst k6; exact does_6 h n nm to a c b h1 h2 h3
  by_cases k7 : kd = 7
  · subst k7; exact does_7 h n nm to a c b h1 h2 h3
  exact does_else h kd n ⟨k0, k1, k2, k3, k4, k5, k6, k7⟩ nm to a c b h1 h2 h3
/-- No operation's bytes are too many. -/
def OpsSmall (os : List Opn) : Prop := ∀ i, i < os.length → (os.getD i nilOp).b.length ≤ 140737488351232

set_option maxRecDepth 100000 in
set_option maxHeartbeats 20000000 in
theorem diskPlays_walk (a : Option Addr) (ca : Nat) (l : List Opn) (w : World) (hl : OpsAt w.heap.size w a l) (hll : l.length ≤ 9223372036854775807) (hsm : OpsSmall l) :
    Calls Try.prog 3 #[.slice a l.length ca] w fun e w' => e = .returned (.bool true) ∧ Below w.heap.size w w' := by
  have HL : Hid (OpsAt w.heap.size w a l) := hl
  have HSM : Hid (OpsSmall l) := hsm
  clear hl hsm
  go_enter Try.func3, Try.ntmps3
  go_wp2_with fail
  refine (first_any w).mono ?_
  rintro e w1 ⟨rfl, hB1⟩
  go_wp2_with fail
  refine (few_any a ca l w.heap.size w1 (HL.out.below hB1) hB1.size hll).mono ?_
  rintro e w2 ⟨⟨b1, rfl⟩, hB2⟩
  have HB2 : Hid (Below w.heap.size w w2) := hB1.trans (hB2.mono hB1.size)
  clear hB1 hB2
  cases b1 with
  | false =>
    go_wp2
    go_ret
    exact ⟨rfl, HB2.out⟩
  | true =>
  go_wp2_with fail
  refine (new_dsk w.heap.size w2 HB2.out.size).mono ?_
  rintro e w3 ⟨rfl, hd3, hB3⟩
  have hb0 := Bth.new HB2.out (Nat.le_refl _) hd3 hB3
  obtain ⟨d, hde⟩ : ∃ d, w2.heap.size + 1 = d := ⟨_, rfl⟩
  obtain ⟨B, hBe⟩ : ∃ B, w3.heap.size = B := ⟨_, rfl⟩
  have HB0 : Hid (∃ S1 S2 q, Bth w.heap.size S1 S2 w (w3.alloc (.cells #[.slice none 0 0, .int .i64 0, .bool false, .string ⟨#[]⟩] 30)) d B q) := by rw [hde, hBe] at hb0; exact ⟨_, _, _, hb0⟩
  rw [hde]
  clear hb0 hd3 hB3 hde
  go_wp2_with fail
  try rw [hBe]
  clear hBe
  go_loopw [7] (fun iv wr => ∃ (i : Nat) (S1 S2 : Nat → Prop) (q : PD), iv = .int .i64 (i : Int) ∧ i ≤ l.length ∧ Bth w.heap.size S1 S2 w wr d B q) (fun iv _ => l.length - (intOf iv).toNat)
  case atStart => obtain ⟨S1, S2, q, hb⟩ := HB0.out; exact ⟨0, S1, S2, q, rfl, Nat.zero_le _, hb⟩
  case round =>
    obtain ⟨i, S1, S2, q, rfl, hi, hb⟩ := hrel
    have HB : Hid (Bth w.heap.size S1 S2 w wr d B q) := hb
    by_cases hlt : i < l.length
    · have hi0 : (0 : Int) ≤ (i : Int) := by omega
      have hi1 : (i : Int) < (l.length : Int) := by omega
      obtain ⟨bb, off, rfl, hbb, ho⟩ := HL.out.at hlt
      obtain ⟨⟨c0, c1, c2, c3, c4⟩, q0, q1, q2, q3⟩ := ho.below hbb hb.bel
      have hda := does_any hb (l.getD i nilOp) q0 q1 q2 q3 (HSM.out i hlt)
      generalize l.getD i nilOp = o at *
      obtain ⟨kd, n, nm, to, oa, oc, ob⟩ := o
      unfold Opn.x at c4 hda
      simp only at c0 c1 c2 c3 c4 hda
      clear ho q0 q1 q2 q3 hb
      go_wp2_with (first
        | (go_at_call 12; refine hda.mono ?_; rintro e w6 ⟨rfl, S3, S4, hb6⟩; have hsa := same_walk hb6; have HB6 : Hid (Bth w.heap.size S3 S4 w w6 d B (toldP q ⟨kd, n, nm, to, oa, oc, ob⟩).2) := hb6; clear hb6)
        | (go_at_call 13; refine hsa.mono ?_; rintro e w7 ⟨rfl, hB7⟩)
        | fail)
      exact ⟨⟨i + 1, S3, S4, _, by go_num, by omega, HB6.out.below hB7⟩, by simp [intOf]; omega⟩
    · have hge : decide ((i : Int) < (l.length : Int)) = false := by simp; omega
      clear hb
      go_wp2
      go_ret
      exact ⟨rfl, HB.out.bel⟩
end Go.Proofs.Ytbjnhohfdpdcnaa
