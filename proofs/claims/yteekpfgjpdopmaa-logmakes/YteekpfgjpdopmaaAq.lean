/-
  Append, a new log.
-/
import Derived.Test.YteekpfgjpdopmaaFi
namespace Go.Proofs.Yteekpfgjpdopmaa
open Go.RowKit
set_option linter.unusedVariables false

/-- A new log. -/
def P0 : PL := ⟨0, 0, [], 0, 0, 0, 0, 0⟩
theorem P0_new : ckNew 0 0 [] = 0 ∧ newP 0 0 0 [] = P0 := ⟨by decide, by kernel_rfl⟩
/-- What an Append leaves. -/
def apL (P : PL) (t k : Int) (d : List UInt8) : PL := if apE P t k d.length = 0 then apP P t k d else P
theorem Append_any {N : Nat} {S : Nat → Prop} {w : World} {b : Nat} {P : PL} (h : Lg N S w b P) (hN : N ≤ w.heap.size) (t k : Int) (a : Option Addr) (d : List UInt8) (cap M : Nat) (hs : Sl M w (.slice a d.length cap) d) (hM : M ≤ w.heap.size) :
    Calls Try.prog 19 #[.pointer (some ⟨b, 0, none⟩), .int .i64 t, .int .i64 k, .slice a d.length cap] w fun e w' => e = .returned (.tuple #[.int .i64 (if apE P t k d.length = 0 then P.li + 1 else 0), .int .i64 (apE P t k d.length : Int)]) ∧ LTh N S w w' b (apL P t k d) := by
  unfold apL
  by_cases he : apE P t k d.length = 0
  · rw [if_pos he, if_pos he, he]
    exact Append_ok h hN t k a d cap M hs hM he
  · rw [if_neg he, if_neg he]
    exact (Append_no h t k a d.length cap he).mono (fun e w' h1 => ⟨h1.1, h.th hN h1.2⟩)

theorem new_any (w : World) : Calls Try.prog 11 #[.int .i64 0, .int .i64 0, .int .i64 0, .slice none 0 0] w fun e w' => ∃ b S, e = .returned (.tuple #[.pointer (some ⟨b, 0, none⟩), .int .i64 0]) ∧ Lg w.heap.size S w' b P0 ∧ Below w.heap.size w w' := by
  have := New_any 0 0 0 none 0 [] 0 w (.inl rfl) (Nat.zero_le _) P0_new.1
  rw [List.map_nil, P0_new.2] at this
  exact this

/-- Entries that lie apart from a log's blocks. -/
structure Apt (S : Nat → Prop) (w : World) (v : Value) (ts : List Ent) : Prop where
  ow : EntsOw 0 w v ts
  row : ∀ g, v.ownBlock = some g → ¬ S g
  dat : ∀ e ∈ ts, ∀ g, e.x.ownBlock = some g → ¬ S g
theorem Apt.nil (S : Nat → Prop) (w : World) : Apt S w (.slice none 0 0) [] := ⟨EntsOw.nil _ _, by simp [Value.ownBlock], by simp⟩
theorem Apt.out {S : Nat → Prop} {w w' : World} {v : Value} {ts : List Ent} (h : Apt S w v ts) (hO : Out S w w') : Apt (grew S w w') w' v ts :=
  ⟨h.ow.out hO h.row h.dat, fun g hg hs => hs.elim (h.row g hg) (fun h2 => by have := (h.ow.lt hg).2; omega), fun e he g hg hs => hs.elim (h.dat e he g hg) (fun h2 => by have := ((h.ow.dat e he).lt hg).2; omega)⟩
theorem Apt.keep {S : Nat → Prop} {w w' : World} {v : Value} {ts : List Ent} (h : Apt S w v ts) (hO : Out S w w') : Apt S w' v ts :=
  ⟨h.ow.out hO h.row h.dat, h.row, h.dat⟩
theorem Apt.below {S : Nat → Prop} {w w' : World} {v : Value} {ts : List Ent} (h : Apt S w v ts) (hB : Below w.heap.size w w') : Apt S w' v ts := h.keep (Out.of_below hB)
theorem Apt.new {S : Nat → Prop} {N : Nat} {w : World} {v : Value} {ts : List Ent} (h : EntsOw N w v ts) (hS : ∀ i, S i → i < N) : Apt S w v ts :=
  ⟨h.base (Nat.zero_le _), fun g hg hs => by have := hS g hs; have := (h.lt hg).1; omega, fun e he g hg hs => by have := hS g hs; have := ((h.dat e he).lt hg).1; omega⟩
end Go.Proofs.Yteekpfgjpdopmaa
