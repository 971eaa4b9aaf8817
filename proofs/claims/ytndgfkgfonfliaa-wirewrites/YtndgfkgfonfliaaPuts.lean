/-
  Puts that came in: their bytes, and whether these are few.
-/
import Derived.Test.YtndgfkgfonfliaaWby
namespace Go.Proofs.Ytndgfkgfonfliaa
open Go.RowKit Go.Shelf

/-- One put, as it lies in memory, and the bytes that it tells. -/
structure PutD where
  kind : Int
  n : Int
  most : Int
  t : Bool
  a : Option Addr
  cap : Nat
  bs : List UInt8

def PutD.x (d : PutD) : Value := .slice d.a d.bs.length d.cap

/-- Puts that came in. -/
def PutsAt (N : Nat) (w : World) (a : Option Addr) (n : Nat) (D : Nat → PutD) : Prop :=
  n = 0 ∨ ∃ b off, a = some ⟨b, off, none⟩ ∧ b < N ∧ ∀ i, i < n → w.cell? ⟨b, off + i * 5, none⟩ = some (.int .i64 (D i).kind) ∧ w.cell? ⟨b, off + i * 5 + 1, none⟩ = some (.int .i64 (D i).n) ∧
    w.cell? ⟨b, off + i * 5 + 2, none⟩ = some (.int .i64 (D i).most) ∧ w.cell? ⟨b, off + i * 5 + 3, none⟩ = some (.bool (D i).t) ∧ w.cell? ⟨b, off + i * 5 + 4, none⟩ = some (D i).x ∧ Sl N w (D i).x (D i).bs

theorem info23 : (Try.prog.info? 23).map (fun i => (i.zero, i.size, i.bytes)) = some (some (.slice none 0 0), 1, 24) := by kernel_rfl

/-- The headers of the puts' bytes. -/
def heads (D : Nat → PutD) (n : Nat) : List Value := (List.range n).map fun i => (D i).x

theorem heads_succ (D : Nat → PutD) (n : Nat) : heads D (n + 1) = heads D n ++ [(D n).x] := by simp [heads, List.range_succ]
theorem heads_len (D : Nat → PutD) (n : Nat) : (heads D n).length = n := by simp [heads]

set_option maxRecDepth 100000 in
set_option maxHeartbeats 1000000 in
theorem parts_any (N : Nat) (a : Option Addr) (n c : Nat) (D : Nat → PutD) (w : World) (hP : PutsAt N w a n D) (hN : N ≤ w.heap.size) (hn : n * 56 ≤ 140737488351232) :
    Calls Try.prog 21 #[.slice a n c] w fun r w' => ∃ v, r = .returned v ∧ w'.ownsRow w.heap.size 23 1 v n (heads D n) ∧ Below w.heap.size w w' := by
  obtain ⟨i0, hi, hz0, hz1, hz2⟩ := info_parts info23
  have HP : Hid (PutsAt N w a n D) := hP
  clear hP
  go_enter Try.func21, Try.ntmps21
  go_wp2
  go_loopw [3, 4] (fun v i wr => ∃ k : Nat, i = .int .i64 (k : Int) ∧ k ≤ n ∧ wr.ownsRow w.heap.size 23 1 v k (heads D k) ∧ Below w.heap.size w wr) (fun _ i _ => n - (intOf i).toNat)
  case atStart => exact ⟨0, rfl, by omega, World.ownsRow_nil _ _ _ _, Below.refl _ _⟩
  case round =>
    obtain ⟨k, rfl, hk, hown, hB⟩ := hrel
    have hsz := hB.size
    by_cases hlt : k < n
    · obtain ⟨b, off, rfl, hb, hc⟩ := HP.out.resolve_left (by omega)
      have h4 : wr.cell? ⟨b, off + k * 5 + 4, none⟩ = some (D k).x := (hB.cell (p := ⟨b, off + k * 5 + 4, none⟩) (show b < w.heap.size by omega)).trans (hc k hlt).2.2.2.2.1
      have HD : Hid ((D k).x = .slice (D k).a (D k).bs.length (D k).cap) := rfl
      clear hc
      rw [HD.out] at h4
      go_wp2_with (at_builtin; refine wpList_append_own _ rfl _ _ 41 rfl w.heap.size 23 i0 (.slice none 0 0) 1 24 Try.underlying41 hi hz0 hz1 hz2 rfl (by decide) _ _ _ rfl (hown.alloc _) ⟨wr.heap.size, 0, none⟩ 1 1 [.slice (D k).a (D k).bs.length (D k).cap] rfl rfl (cell_one_new _ _ _) (by intro u hu; simp at hu; subst hu; rfl) (by unfold maxLen; omega) (by omega) (by simp; omega) ?_; intro v' w1 hown' hgrow _)
      have hB1 : Below w.heap.size w w1 := (hB.alloc hsz _).grown hgrow (by simp; omega) (fun k hk => (hown.lt k hk).1)
      have HO : Hid (w1.ownsRow w.heap.size 23 1 v' (k + 1) (heads D (k + 1))) := by rw [heads_succ]; exact hown'
      clear hown' hgrow hown hB
      go_wp2
      go_roundw
      case rel => exact ⟨k + 1, by go_num, by omega, HO.out, hB1⟩
      case measure => simp [intOf]; omega
    · obtain rfl : k = n := by omega
      go_wp2
      go_ret
      exact ⟨_, rfl, hown, hB⟩

/-- How many bytes the first n have. -/
def total (D : Nat → PutD) : Nat → Nat
  | 0 => 0
  | n + 1 => total D n + (D n).bs.length

/-- What Few answers. -/
def Fewed (D : Nat → PutD) (n : Nat) (r : Ending) : Prop := ∃ t, r = .returned (.bool t) ∧ (t = true → total D n ≤ 20000)

theorem ownsRow_cell {w : World} {N : Nat} {v : Value} {n : Nat} {xs : List Value} (h : w.ownsRow N 23 1 v n xs) (hn : 0 < n) : ∃ g cap, v = .slice (some ⟨g, 0, none⟩) n cap ∧ cap ≤ maxLen ∧ ∀ i, i < n → w.cell? ⟨g, i, none⟩ = xs[i]? := by
  rcases h.2 with ⟨_, h0⟩ | ⟨g, cap, cur, rfl, _, hg, h1, h2, h3, h4⟩
  · omega
  · refine ⟨g, cap, rfl, h2, fun i hi => ?_⟩
    simp only [World.cell?, hg]
    rw [Nat.mul_one] at h4
    rw [← h4, List.getElem?_take, if_pos hi]
    simp

set_option maxRecDepth 100000 in
set_option maxHeartbeats 1000000 in
theorem few_any (N : Nat) (v : Value) (n : Nat) (D : Nat → PutD) (w : World) (h : w.ownsRow N 23 1 v n (heads D n)) (hn : n * 56 ≤ 140737488351232) (hD : ∀ i, i < n → (D i).bs.length ≤ 9223372036854775807) :
    Calls Try.prog 20 #[v, .int .i64 20000] w fun r w' => Fewed D n r ∧ w' = w := by
  rcases Nat.eq_zero_or_pos n with rfl | hp
  · obtain ⟨a, c, rfl⟩ : ∃ a c, v = .slice a 0 c := by
      rcases h.2 with ⟨h1, _⟩ | ⟨g, cap, cur, h1, _⟩
      · exact ⟨_, _, h1⟩
      · exact ⟨_, _, h1⟩
    clear h hn hD
    go_enter Try.func20, Try.ntmps20
    go_wp2
    go_loop [5, 6] (fun s i => s = .int .i64 0 ∧ i = .int .i64 0) (fun _ _ => 0)
    case atStart => exact ⟨rfl, rfl⟩
    case round =>
      obtain ⟨rfl, rfl⟩ := hrel
      go_wp2
      go_ret
      exact ⟨⟨true, rfl, fun _ => by simp [total]⟩, rfl⟩
  · obtain ⟨g, cap, rfl, hcm, hc⟩ := ownsRow_cell h hp
    have HC : Hid (∀ i, i < n → w.cell? ⟨g, i, none⟩ = (heads D n)[i]?) := hc
    have HD : Hid (∀ i, i < n → (D i).bs.length ≤ 9223372036854775807) := hD
    clear h hc hD
    go_enter Try.func20, Try.ntmps20
    go_wp2
    go_loop [5, 6] (fun s i => ∃ k : Nat, s = .int .i64 (total D k : Int) ∧ i = .int .i64 (k : Int) ∧ k ≤ n ∧ total D k ≤ 20000) (fun _ i => n - (intOf i).toNat)
    case atStart => exact ⟨0, rfl, rfl, by omega, by simp [total]⟩
    case round =>
      obtain ⟨k, rfl, rfl, hk, ht⟩ := hrel
      by_cases hlt : k < n
      · have h4 : w.cell? ⟨g, k, none⟩ = some (.slice (D k).a (D k).bs.length (D k).cap) := by
          rw [HC.out k hlt]; simp [heads, hlt, PutD.x]
        have hb := HD.out k hlt
        have HT : Hid (total D (k + 1) = total D k + (D k).bs.length) := rfl
        generalize htk : total D k = tk at *
        generalize hbk : (D k).bs.length = bk at *
        by_cases hf : (20000 : Int) - (tk : Int) < (bk : Int)
        · clear htk hbk
          go_wp2
          go_ret
          exact ⟨⟨false, rfl, fun h => by cases h⟩, rfl⟩
        · clear htk hbk
          go_wp2
          go_round
          case rel => exact ⟨k + 1, by rw [HT.out]; go_num, by go_num, by omega, by rw [HT.out]; omega⟩
          case measure => simp [intOf]; omega
      · obtain rfl : k = n := by omega
        go_wp2
        go_ret
        exact ⟨⟨true, rfl, fun _ => ht⟩, rfl⟩
end Go.Proofs.Ytndgfkgfonfliaa
