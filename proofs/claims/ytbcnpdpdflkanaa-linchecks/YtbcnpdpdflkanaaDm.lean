/-
  The document's search in memory; bits; whether an operation may be the next one.
-/
import Derived.Test.YtbcnpdpdflkanaaFw
import Derived.Test.YtbcnpdpdflkanaaLs
namespace Go.Proofs.Ytbcnpdpdflkanaa
open Go.RowKit

set_option maxRecDepth 100000 in
theorem bit_any (i : Nat) (hi : i < 12) (w : World) : Calls Try.prog 43 #[.int .i64 (i : Int)] w fun e w' => e = .returned (.int .i64 ((2 ^ i : Nat) : Int)) ∧ w' = w := by
  have h12 : i = 0 ∨ i = 1 ∨ i = 2 ∨ i = 3 ∨ i = 4 ∨ i = 5 ∨ i = 6 ∨ i = 7 ∨ i = 8 ∨ i = 9 ∨ i = 10 ∨ i = 11 := by omega
  rcases h12 with rfl | rfl | rfl | rfl | rfl | rfl | rfl | rfl | rfl | rfl | rfl | rfl
  · change Calls Try.prog 43 #[.int .i64 0] w fun e w' => e = .returned (.int .i64 1) ∧ w' = w
    go_enter Try.func43, Try.ntmps43
    go_wp2
    go_ret
    exact ⟨rfl, rfl⟩
  · change Calls Try.prog 43 #[.int .i64 1] w fun e w' => e = .returned (.int .i64 2) ∧ w' = w
    go_enter Try.func43, Try.ntmps43
    go_wp2
    go_ret
    exact ⟨rfl, rfl⟩
  · change Calls Try.prog 43 #[.int .i64 2] w fun e w' => e = .returned (.int .i64 4) ∧ w' = w
    go_enter Try.func43, Try.ntmps43
    go_wp2
    go_ret
    exact ⟨rfl, rfl⟩
  · change Calls Try.prog 43 #[.int .i64 3] w fun e w' => e = .returned (.int .i64 8) ∧ w' = w
    go_enter Try.func43, Try.ntmps43
    go_wp2
    go_ret
    exact ⟨rfl, rfl⟩
  · change Calls Try.prog 43 #[.int .i64 4] w fun e w' => e = .returned (.int .i64 16) ∧ w' = w
    go_enter Try.func43, Try.ntmps43
    go_wp2
    go_ret
    exact ⟨rfl, rfl⟩
  · change Calls Try.prog 43 #[.int .i64 5] w fun e w' => e = .returned (.int .i64 32) ∧ w' = w
    go_enter Try.func43, Try.ntmps43
    go_wp2
    go_ret
    exact ⟨rfl, rfl⟩
  · change Calls Try.prog 43 #[.int .i64 6] w fun e w' => e = .returned (.int .i64 64) ∧ w' = w
    go_enter Try.func43, Try.ntmps43
    go_wp2
    go_ret
    exact ⟨rfl, rfl⟩
  · change Calls Try.prog 43 #[.int .i64 7] w fun e w' => e = .returned (.int .i64 128) ∧ w' = w
    go_enter Try.func43, Try.ntmps43
    go_wp2
    go_ret
    exact ⟨rfl, rfl⟩
  · change Calls Try.prog 43 #[.int .i64 8] w fun e w' => e = .returned (.int .i64 256) ∧ w' = w
    go_enter Try.func43, Try.ntmps43
    go_wp2
    go_ret
    exact ⟨rfl, rfl⟩
  · change Calls Try.prog 43 #[.int .i64 9] w fun e w' => e = .returned (.int .i64 512) ∧ w' = w
    go_enter Try.func43, Try.ntmps43
    go_wp2
    go_ret
    exact ⟨rfl, rfl⟩
  · change Calls Try.prog 43 #[.int .i64 10] w fun e w' => e = .returned (.int .i64 1024) ∧ w' = w
    go_enter Try.func43, Try.ntmps43
    go_wp2
    go_ret
    exact ⟨rfl, rfl⟩
  · change Calls Try.prog 43 #[.int .i64 11] w fun e w' => e = .returned (.int .i64 2048) ∧ w' = w
    go_enter Try.func43, Try.ntmps43
    go_wp2
    go_ret
    exact ⟨rfl, rfl⟩

/-- Where a search of the document lies: the struct, its map, the list of numbers, the history. -/
structure Ds where
  N : Nat
  B : Nat
  s : Nat
  M : Nat
  ha : Option Addr
  hc : Nat
  oa : Option Addr
  oc : Nat
def atV (d : Nat) (th : Bool) (v : Bs) : Value := .agg #[.int .i64 (d : Int), .bool th, str v]
structure Sq (c : Ds) (h : List Lo) (ns : List Nat) (w : World) : Prop where
  c0 : w.cell? ⟨c.s, 0, none⟩ = some (.slice c.ha h.length c.hc)
  c1 : w.cell? ⟨c.s, 1, none⟩ = some (.slice c.oa ns.length c.oc)
  c2 : w.cell? ⟨c.s, 2, none⟩ = some (.map (some c.M))
  hat : HAt c.N w c.ha h
  row : w.ownsRow c.B 3 1 (.slice c.oa ns.length c.oc) ns.length (ns.map encI)
  lt : ∀ i ∈ ns, i < h.length
  sM : c.s ≠ c.M
  NM : c.N ≤ c.M
  rM : (Value.slice c.oa ns.length c.oc).ownBlock ≠ some c.M
  sl : c.s < w.heap.size
  Nl : c.N ≤ w.heap.size
theorem Sq.out {c : Ds} {h : List Lo} {ns : List Nat} {w w' : World} (hS : Sq c h ns w) (hO : Out (fun i => i = c.M) w w') : Sq c h ns w' := by
  refine ⟨out_cell hO hS.c0 hS.sM, out_cell hO hS.c1 hS.sM, out_cell hO hS.c2 hS.sM, ?_, row_out hS.row hO (fun g hg e => hS.rM (by rw [hg, e])), hS.lt, hS.sM, hS.NM, hS.rM, Nat.lt_of_lt_of_le hS.sl hO.size, Nat.le_trans hS.Nl hO.size⟩
  exact hS.hat.below (hO.below hS.Nl (fun i hi => by rw [hi]; exact hS.NM))
theorem Sq.below {c : Ds} {h : List Lo} {ns : List Nat} {w w' : World} (hS : Sq c h ns w) (hB : Below w.heap.size w w') : Sq c h ns w' := hS.out (Out.of_below hB)
/-- The k-th of the operations. -/
theorem Sq.at {c : Ds} {h : List Lo} {ns : List Nat} {w : World} (hS : Sq c h ns w) {k : Nat} (hk : k < ns.length) : ∃ g b off, c.oa = some ⟨g, 0, none⟩ ∧ c.ha = some ⟨b, off, none⟩ ∧ w.cell? ⟨g, k, none⟩ = some (.int .i64 ((ns.getD k 0 : Nat) : Int)) ∧ ns.getD k 0 < h.length ∧ OpAt w b (off + ns.getD k 0 * 10) (nops h ns k) ∧ g < w.heap.size ∧ b < w.heap.size := by
  obtain ⟨g, hg, -, hgl⟩ := row_ptr hS.row (by omega)
  have hr := hS.row
  rw [hg] at hr
  have hc := (row_cell hr (j := k) (by omega)).1
  have hgd : ns.getD k 0 ∈ ns := by rw [List.getD_eq_getElem?_getD, List.getElem?_eq_getElem hk]; exact List.getElem_mem hk
  have hlt := hS.lt _ hgd
  obtain ⟨b, off, hb, hbN, hop⟩ := hS.hat.at hlt
  refine ⟨g, b, off, hg, hb, ?_, hlt, hop, hgl, by have := hS.Nl; omega⟩
  rw [hc, List.getD_eq_getElem?_getD, List.getElem?_map, List.getElem?_eq_getElem hk, List.getD_eq_getElem?_getD, List.getElem?_eq_getElem hk]
  rfl

theorem bdrew {N n : Nat} {w W : World} (h : Below N w W) : Below N w (W.drewN n) := ⟨h.os, h.tape, h.output, h.size, h.block⟩
theorem div_bit {d : Nat} (hd : d < 4096) (k : Nat) : Int.tmod (wrap64 ((d : Int) / ((2 ^ k : Nat) : Int))) 2 = if d.testBit k then 1 else 0 := by
  have hq : (d : Int) / ((2 ^ k : Nat) : Int) = ((d / 2 ^ k : Nat) : Int) := rfl
  have hle := Nat.div_le_self d (2 ^ k)
  rw [hq]
  generalize hqe : d / 2 ^ k = q at *
  rw [IntWalk.wrap64_in _ ⟨by omega, by omega⟩, show (2 : Int) = ((2 : Nat) : Int) from rfl, ← Int.ofNat_tmod, Nat.testBit_eq_decide_div_mod_eq, hqe]
  by_cases e : q % 2 = 1
  · rw [e]; simp
  · have : q % 2 = 0 := by omega
    rw [this]; simp
end Go.Proofs.Ytbcnpdpdflkanaa
