/-
  Puts that came in: their bytes, and whether these are few.
-/
import Derived.Test.YtglhjgfaelfleabWby
namespace Go.Proofs.Ytglhjgfaelfleab
open Go.RowKit Go.Shelf

/-- One put, as it lies in memory, and the bytes that it tells. -/
structure PutD where
  kind : Int
  n : Int
  most : Int
  t : Bool
  a : Option Addr
  cap : Nat
  bs : List UInt8

def PutD.x (d : PutD) : Value := .slice d.a d.bs.length d.cap

/-- Puts that came in. -/
def PutsAt (N : Nat) (w : World) (a : Option Addr) (n : Nat) (D : Nat → PutD) : Prop :=
  n = 0 ∨ ∃ b off, a = some ⟨b, off, none⟩ ∧ b < N ∧ ∀ i, i < n → w.cell? ⟨b, off + i * 5, none⟩ = some (.int .i64 (D i).kind) ∧ w.cell? ⟨b, off + i * 5 + 1, none⟩ = some (.int .i64 (D i).n) ∧
    w.cell? ⟨b, off + i * 5 + 2, none⟩ = some (.int .i64 (D i).most) ∧ w.cell? ⟨b, off + i * 5 + 3, none⟩ = some (.bool (D i).t) ∧ w.cell? ⟨b, off + i * 5 + 4, none⟩ = some (D i).x ∧ Sl N w (D i).x (D i).bs

theorem info23 : (Try.prog.info? 35).map (fun i => (i.zero, i.size, i.bytes)) = some (some (.slice none 0 0), 1, 24) := by kernel_rfl

/-- The headers of the puts' bytes. -/
def heads (D : Nat → PutD) (n : Nat) : List Value := (List.range n).map fun i => (D i).x

theorem heads_succ (D : Nat → PutD) (n : Nat) : heads D (n + 1) = heads D n ++ [(D n).x] := by simp [heads, List.range_succ]
theorem heads_len (D : Nat → PutD) (n : Nat) : (heads D n).length = n := by simp [heads]

/-- How many bytes the first n have. -/
def total (D : Nat → PutD) : Nat → Nat
  | 0 => 0
  | n + 1 => total D n + (D n).bs.length

/-- What Few answers. -/
def Fewed (D : Nat → PutD) (n : Nat) (r : Ending) : Prop := ∃ t, r = .returned (.bool t) ∧ (t = true → total D n ≤ 20000)

theorem ownsRow_cell {w : World} {N : Nat} {v : Value} {n : Nat} {xs : List Value} (h : w.ownsRow N 35 1 v n xs) (hn : 0 < n) : ∃ g cap, v = .slice (some ⟨g, 0, none⟩) n cap ∧ cap ≤ maxLen ∧ ∀ i, i < n → w.cell? ⟨g, i, none⟩ = xs[i]? := by
  rcases h.2 with ⟨_, h0⟩ | ⟨g, cap, cur, rfl, _, hg, h1, h2, h3, h4⟩
  · omega
  · refine ⟨g, cap, rfl, h2, fun i hi => ?_⟩
    simp only [World.cell?, hg]
    rw [Nat.mul_one] at h4
    rw [← h4, List.getElem?_take, if_pos hi]
    simp

end Go.Proofs.Ytglhjgfaelfleab
