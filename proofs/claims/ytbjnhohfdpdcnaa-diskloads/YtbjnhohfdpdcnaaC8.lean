/-
  What a disk is told: an operation, operations one behind the other.
-/
import Derived.Test.YtbjnhohfdpdcnaaCra
namespace Go.Proofs.Ytbjnhohfdpdcnaa
open Go.RowKit

/-- An operation, as it lies in memory. -/
structure Opn where
  kd : Int
  n : Int
  nm : List UInt8
  to : List UInt8
  a : Option Addr
  c : Nat
  b : List UInt8
def nilOp : Opn := ⟨0, 0, [], [], none, 0, []⟩
def Opn.x (o : Opn) : Value := .slice o.a o.b.length o.c
/-- What an operation does to a disk. -/
def toldP (p : PD) (o : Opn) : Nat × PD :=
  if o.kd = 0 then doCreate p o.nm else if o.kd = 1 then doAppend p o.nm o.b else if o.kd = 2 then doSync p o.nm else if o.kd = 3 then doCut p o.nm o.n else
  if o.kd = 4 then doRename p o.nm o.to else if o.kd = 5 then doRemove p o.nm else if o.kd = 6 then (0, { p with arm := o.n.toNat }) else if o.kd = 7 then (0, doCrash p o.n) else (0, p)

theorem At.trans {S : Nat → Prop} {w w0 w' : World} {d : Nat} {k k' : DS} (h : At S w w0 d k) (h' : At (grew S w w0) w0 w' d k') : At S w w' d k' := by
  refine ⟨h'.dk.mono (fun i hi => ?_) (fun i hi => ?_), h.out.step h'.out⟩
  · rcases hi with hi | hi
    · exact grew_mono h'.out.size hi
    · exact .inr ⟨Nat.le_trans h.out.size hi.1, hi.2⟩
  · rcases hi with hi | hi
    · exact Nat.lt_of_lt_of_le (h.dk.inn i (.inl hi)) h'.out.size
    · exact hi.2
theorem Done.trans {S : Nat → Prop} {w w0 w' : World} {d : Nat} {k : DS} {x : Nat × PD} {r : Ending} (h : At S w w0 d k) (h' : Done (grew S w w0) w0 d x r w') : Done S w d x r w' := by
  obtain ⟨k', h1, h2, h3⟩ := h'
  exact ⟨k', h1, h.trans h2, h3⟩
theorem SlX.grew {S : Nat → Prop} {w w' : World} {v : Value} {l : List UInt8} (h : SlX S w v l) (hO : Out S w w') : SlX (grew S w w') w' v l := by
  obtain ⟨a, cap, rfl, h1, h2, h3⟩ := h
  refine ⟨a, cap, rfl, h1, h2, h3.imp id ?_⟩
  rintro ⟨b, off, ha, hb, hlt, hc⟩
  exact ⟨b, off, ha, fun hg => hg.elim hb (fun h9 => by omega), Nat.lt_of_lt_of_le hlt hO.size, fun i hi => (World.cell?_of_block (a := ⟨b, off + i, none⟩) (hO.block b hlt hb)).trans (hc i hi)⟩

set_option maxRecDepth 100000 in
set_option maxHeartbeats 8000000 in
theorem told_any {S : Nat → Prop} {w : World} {d : Nat} {k : DS} (h : DkC S w d k) (o : Opn) (hx : SlX S w o.x o.b) (h1 : o.nm.length ≤ maxLen) (h2 : o.to.length ≤ maxLen) (h3 : o.n < 9223372036854775808) :
    Calls Try.prog 31 #[.pointer (some ⟨d, 0, none⟩), .agg #[.int .i64 o.kd, .int .i64 o.n, .string ⟨o.nm.toArray⟩, .string ⟨o.to.toArray⟩, o.x]] w fun r w' => Done S w d (toldP k.pd o) r w' := by
  obtain ⟨kd, n, nm, to, a, c, b⟩ := o
  unfold Opn.x at hx ⊢
  simp only at hx h1 h2 h3 ⊢
  obtain ⟨W, hW⟩ : ∃ W, w.alloc (.cells #[.int .i64 kd, .int .i64 n, .string ⟨nm.toArray⟩, .string ⟨to.toArray⟩, .slice a b.length c] 34) = W := ⟨_, rfl⟩
  have HW : Hid (w.alloc (.cells #[.int .i64 kd, .int .i64 n, .string ⟨nm.toArray⟩, .string ⟨to.toArray⟩, .slice a b.length c] 34) = W) := hW
  have hA : At S w W d k := by rw [← hW]; exact (At.start h).alloc _
  have HA : Hid (At S w W d k) := hA
  have hsx := hx.grew hA.out
  clear hW h hx
  by_cases k0 : kd = 0
  · subst k0
    have HT : Hid (toldP k.pd ⟨0, n, nm, to, a, c, b⟩ = doCreate k.pd nm) := by
      show toldP k.pd _ = _
      simp [toldP]
    clear hA hsx
    have hc := create_any HA.out.dk nm h1
    go_enter Try.func31, Try.ntmps31
    go_wp2_with (first | (go_at_call 19; rw [HW.out]; refine hc.mono ?_; rintro e w2 ⟨k2, rfl, h9, hp9⟩) | (go_at_call 18; refine (num_any _ _).mono ?_; rintro e w3 ⟨rfl, rfl⟩))
    go_ret
    exact Done.mk HT.out rfl (HA.out.trans h9) hp9
  by_cases k1 : kd = 1
  · subst k1
    have HT : Hid (toldP k.pd ⟨1, n, nm, to, a, c, b⟩ = doAppend k.pd nm b) := by
      show toldP k.pd _ = _
      simp [toldP]
    clear hA
    have hc := append_any HA.out.dk nm h1 a c b hsx
    go_enter Try.func31, Try.ntmps31
    go_wp2_with (first | (go_at_call 21; rw [HW.out]; refine hc.mono ?_; rintro e w2 ⟨k2, rfl, h9, hp9⟩) | (go_at_call 18; refine (num_any _ _).mono ?_; rintro e w3 ⟨rfl, rfl⟩))
    go_ret
    exact Done.mk HT.out rfl (HA.out.trans h9) hp9
  by_cases k2 : kd = 2
  · subst k2
    have HT : Hid (toldP k.pd ⟨2, n, nm, to, a, c, b⟩ = doSync k.pd nm) := by
      show toldP k.pd _ = _
      simp [toldP]
    clear hA hsx
    have hc := sync_any HA.out.dk nm h1
    go_enter Try.func31, Try.ntmps31
    go_wp2_with (first | (go_at_call 32; rw [HW.out]; refine hc.mono ?_; rintro e w2 ⟨k2, rfl, h9, hp9⟩) | (go_at_call 18; refine (num_any _ _).mono ?_; rintro e w3 ⟨rfl, rfl⟩))
    go_ret
    exact Done.mk HT.out rfl (HA.out.trans h9) hp9
  by_cases k3 : kd = 3
  · subst k3
    have HT : Hid (toldP k.pd ⟨3, n, nm, to, a, c, b⟩ = doCut k.pd nm n) := by
      show toldP k.pd _ = _
      simp [toldP]
    clear hA hsx
    have hc := cut_any HA.out.dk nm h1 n
    go_enter Try.func31, Try.ntmps31
    go_wp2_with (first | (go_at_call 36; rw [HW.out]; refine hc.mono ?_; rintro e w2 ⟨k2, rfl, h9, hp9⟩) | (go_at_call 18; refine (num_any _ _).mono ?_; rintro e w3 ⟨rfl, rfl⟩))
    go_ret
    exact Done.mk HT.out rfl (HA.out.trans h9) hp9
  by_cases k4 : kd = 4
  · subst k4
    have HT : Hid (toldP k.pd ⟨4, n, nm, to, a, c, b⟩ = doRename k.pd nm to) := by
      show toldP k.pd _ = _
      simp [toldP]
    clear hA hsx
    have hc := rename_any HA.out.dk nm to h1 h2
    go_enter Try.func31, Try.ntmps31
    go_wp2_with (first | (go_at_call 38; rw [HW.out]; refine hc.mono ?_; rintro e w2 ⟨k2, rfl, h9, hp9⟩) | (go_at_call 18; refine (num_any _ _).mono ?_; rintro e w3 ⟨rfl, rfl⟩))
    go_ret
    exact Done.mk HT.out rfl (HA.out.trans h9) hp9
  by_cases k5 : kd = 5
  · subst k5
    have HT : Hid (toldP k.pd ⟨5, n, nm, to, a, c, b⟩ = doRemove k.pd nm) := by
      show toldP k.pd _ = _
      simp [toldP]
    clear hA hsx
    have hc := remove_any HA.out.dk nm h1
    go_enter Try.func31, Try.ntmps31
    go_wp2_with (first | (go_at_call 40; rw [HW.out]; refine hc.mono ?_; rintro e w2 ⟨k2, rfl, h9, hp9⟩) | (go_at_call 18; refine (num_any _ _).mono ?_; rintro e w3 ⟨rfl, rfl⟩))
    go_ret
    exact Done.mk HT.out rfl (HA.out.trans h9) hp9
  by_cases k6 : kd = 6
  · subst k6
    have HT : Hid (toldP k.pd ⟨6, n, nm, to, a, c, b⟩ = (0, { k.pd with arm := n.toNat })) := by
      show toldP k.pd _ = _
      simp [toldP]
    clear hA hsx
    have hc := arm_any HA.out.dk n h3
    go_enter Try.func31, Try.ntmps31
    go_wp2_with (go_at_call 42; rw [HW.out]; refine hc.mono ?_; rintro e w2 ⟨rfl, h9⟩)
    go_ret
    exact Done.mk HT.out rfl (HA.out.trans h9) rfl
  by_cases k7 : kd = 7
  · subst k7
    have HT : Hid (toldP k.pd ⟨7, n, nm, to, a, c, b⟩ = (0, doCrash k.pd n)) := by
      show toldP k.pd _ = _
      simp [toldP]
    clear hA hsx
    have hc := crash_any HA.out.dk n
    go_enter Try.func31, Try.ntmps31
    go_wp2_with (go_at_call 28; rw [HW.out]; refine hc.mono ?_; rintro e w2 ⟨k2, rfl, h9, hp9⟩)
    go_ret
    exact Done.mk HT.out rfl (HA.out.trans h9) hp9
  have e0 : (kd == 0) = false := by simpa using k0
  have e1 : (kd == 1) = false := by simpa using k1
  have e2 : (kd == 2) = false := by simpa using k2
  have e3 : (kd == 3) = false := by simpa using k3
  have e4 : (kd == 4) = false := by simpa using k4
  have e5 : (kd == 5) = false := by simpa using k5
  have e6 : (kd == 6) = false := by simpa using k6
  have e7 : (kd == 7) = false := by simpa using k7
  have HT : Hid (toldP k.pd ⟨kd, n, nm, to, a, c, b⟩ = (0, k.pd)) := by
    show toldP k.pd _ = _
    simp [toldP, k0, k1, k2, k3, k4, k5, k6, k7]
  clear hA hsx
  go_enter Try.func31, Try.ntmps31
  go_wp2
  rw [HW.out]
  go_ret
  exact Done.mk HT.out rfl HA.out rfl

end Go.Proofs.Ytbjnhohfdpdcnaa
