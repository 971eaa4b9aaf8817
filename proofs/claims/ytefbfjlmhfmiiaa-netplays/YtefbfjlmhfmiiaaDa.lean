/-
  does: any operation.
-/
import Derived.Test.YtefbfjlmhfmiiaaDk
import Derived.Test.YtefbfjlmhfmiiaaDe9
import Derived.Test.YtefbfjlmhfmiiaaDw1
import Derived.Test.YtefbfjlmhfmiiaaFw
namespace Go.Proofs.Ytefbfjlmhfmiiaa
open Go.RowKit
set_option linter.unusedVariables false

/-- What an operation leaves. -/
def DsR (N : Nat) (w : World) (b c : Nat) (P : PN) (C : List Pr) (r : Ending) (w' : World) : Prop := r = .returned (.bool true) ∧ ∃ P' S' T' C', Bo N S' T' w' b c P' C' ∧ Below N w w' ∧ C'.length ≤ C.length + 1 ∧ P'.k ≤ P.k + 1

theorem PN.add_k9 (P : PN) (f t : Int) (d : List UInt8) (s : Bool) : (P.add f t d s).k ≤ P.k + 1 := by
  unfold PN.add; split
  · show P.k + 1 ≤ P.k + 1; omega
  · omega
theorem PN.send_k9 (P : PN) (f t : Int) (d : List UInt8) : (P.send f t d).k ≤ P.k + 1 := by
  unfold PN.send; split
  · exact P.add_k9 _ _ _ _
  · omega
theorem PN.copy_k9 (P : PN) (i : Int) : (P.copy i).k ≤ P.k + 1 := by
  unfold PN.copy; split
  · exact P.add_k9 _ _ _ _
  · omega
theorem PN.take_k9 (P : PN) (i : Int) : (P.take i).k ≤ P.k + 1 := by
  unfold PN.take; split
  · show P.k ≤ P.k + 1; omega
  · omega
theorem PN.spoil_k9 (P : PN) (i j : Int) : (P.spoil i j).k ≤ P.k + 1 := by
  unfold PN.spoil; split
  · show P.k ≤ P.k + 1; omega
  · omega
theorem PN.move_k9 (P : PN) (i j : Int) : (P.move i j).k ≤ P.k + 1 := by
  unfold PN.move; split
  · show P.k ≤ P.k + 1; omega
  · omega
theorem PN.link_k9 (P : PN) (i j : Int) (u : Bool) : (P.link i j u).k ≤ P.k + 1 := by
  unfold PN.link; split
  · show P.k ≤ P.k + 1; omega
  · omega

theorem DsR.of {N : Nat} {w : World} {b c : Nat} {P P' : PN} {C : List Pr} (hP : P'.k ≤ P.k + 1) {r : Ending} {w' : World} (h : r = .returned (.bool true) ∧ ∃ S' T' C', Bo N S' T' w' b c P' C' ∧ Below N w w' ∧ C'.length ≤ C.length + 1) : DsR N w b c P C r w' := by
  obtain ⟨h1, S', T', C', h2, h3, h4⟩ := h
  exact ⟨h1, P', S', T', C', h2, h3, h4, hP⟩

theorem does_any {N M : Nat} {S T : Nat → Prop} {w : World} {b c : Nat} {P : PN} {C : List Pr} (h : Bo N S T w b c P C) (hN : N ≤ w.heap.size) (hk : P.k < 1000000000) (hC : C.length ≤ 100000) (kd A B : Int) (up : Bool) (da : Option Addr) (dc : Nat) (d : List UInt8) (hsl : Sl M w (.slice da d.length dc) d) (hM : M ≤ N) (hB : B ≤ 9223372036854775807) (hl : d.length ≤ 140737488351232) :
    Calls Try.prog 11 #[.pointer (some ⟨b, 0, none⟩), .pointer (some ⟨c, 0, none⟩), .agg #[.int .i64 kd, .int .i64 A, .int .i64 B, .bool up, .slice da d.length dc]] w fun r w' => DsR N w b c P C r w' := by
  by_cases h0 : kd = 0
  · subst h0; exact (does0 h hN hk hC A B up da dc d hsl hM hl).mono fun _ _ q => DsR.of (P.send_k9 _ _ _) q
  by_cases h1 : kd = 1
  · subst h1; exact (does1 h hN A B up _).mono fun _ _ q => DsR.of (P.take_k9 _) q
  by_cases h2 : kd = 2
  · subst h2; exact (does2 h hN A B up _).mono fun _ _ q => DsR.of (P.take_k9 _) q
  by_cases h3 : kd = 3
  · subst h3; exact (does3 h hN hk A B up _).mono fun _ _ q => DsR.of (P.copy_k9 _) q
  by_cases h4 : kd = 4
  · subst h4; exact (does4 h hN A B up _ hB).mono fun _ _ q => DsR.of (P.spoil_k9 _ _) q
  by_cases h5 : kd = 5
  · subst h5; exact (does5 h hN A B up _).mono fun _ _ q => DsR.of (P.move_k9 _ _) q
  by_cases h6 : kd = 6
  · subst h6; exact (does6 h hN A B up _ hC).mono fun _ _ q => DsR.of (P.link_k9 _ _ _) q
  by_cases h7 : kd = 7
  · subst h7; exact (does7 h hN A B up _).mono fun _ _ q => DsR.of (P' := P.clear A) (by show P.k ≤ P.k + 1; omega) q
  exact (does9 h hN hC kd A B up _ (by simpa using h0) (by simpa using h1) (by simpa using h2) (by simpa using h3) (by simpa using h4) (by simpa using h5) (by simpa using h6) (by simpa using h7)).mono fun _ _ q => DsR.of (P' := P) (by omega) q

theorem Nt.base' {N N' : Nat} {S : Nat → Prop} {w : World} {b : Nat} {P : PN} (h : Nt N S w b P) (hN : N' ≤ N) : Nt N' S w b P := ⟨h.at_, h.ok, h.Sb, h.inn, fun i hi => Nat.le_trans hN (h.fr i hi)⟩
theorem Rn.base {N N' : Nat} {S : Nat → Prop} {w : World} {b : Nat} {P : PN} {C : List Pr} (h : Rn N S w b P C) (hN : N' ≤ N) : Rn N' S w b P C := ⟨h.at_, h.ok, h.cok, h.Sb, h.inn, fun i hi => Nat.le_trans hN (h.fr i hi)⟩

/-- Two new networks. -/
theorem Bo.start {G : Nat} {S T : Nat → Prop} {w w1 w2 : World} {b c : Nat} {n : Int} {L : List Bool} (hn : Nt w.heap.size S w1 b (newN n L)) (hr : Rn w1.heap.size T w2 c (newN n L) []) (hB : Below w1.heap.size w1 w2) (hG : G ≤ w.heap.size) (hz : w.heap.size ≤ w1.heap.size) : Bo G S T w2 b c (newN n L) [] :=
  ⟨(hn.below hB).base' hG, hr.base (by omega), fun i hs ht => by have := hn.inn i hs; have := hr.fr i ht; omega⟩
end Go.Proofs.Ytefbfjlmhfmiiaa
