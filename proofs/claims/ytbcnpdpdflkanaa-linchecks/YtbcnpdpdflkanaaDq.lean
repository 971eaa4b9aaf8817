/-
  The document's search: may.
-/
import Derived.Test.YtbcnpdpdflkanaaDm
namespace Go.Proofs.Ytbcnpdpdflkanaa
open Go.RowKit

def clear1 (h : List Lo) (ns : List Nat) (d i k : Nat) : Bool := decide ((nops h ns k).back = 0) || decide ((nops h ns i).call ≤ (nops h ns k).back) || d.testBit k
theorem may_not {h : List Lo} {ns : List Nat} {d i : Nat} (hd : d.testBit i = true) : mayB (L h ns) d.testBit i = false := by unfold mayB; rw [hd]; rfl
theorem may_bad {h : List Lo} {ns : List Nat} {d i k : Nat} (hi : i < ns.length) (hk : k < ns.length) (hc : clear1 h ns d i k = false) : mayB (L h ns) d.testBit i = false := by
  unfold mayB
  rw [Bool.and_eq_false_iff]
  right
  rw [List.all_eq_false]
  refine ⟨k, List.mem_range.2 (by rw [L_len]; exact hk), ?_⟩
  rw [L_at h ns hi, L_at h ns hk]
  unfold clear1 at hc
  rw [hc]; simp
theorem may_good {h : List Lo} {ns : List Nat} {d i : Nat} (hi : i < ns.length) (hd : d.testBit i = false) (hc : ∀ k, k < ns.length → clear1 h ns d i k = true) : mayB (L h ns) d.testBit i = true := by
  unfold mayB
  rw [hd, Bool.and_eq_true, List.all_eq_true]
  refine ⟨rfl, fun k hk => ?_⟩
  rw [List.mem_range, L_len] at hk
  rw [L_at h ns hi, L_at h ns hk]
  exact hc k hk

set_option maxRecDepth 100000 in
set_option maxHeartbeats 4000000 in
theorem may_any (c : Ds) (h : List Lo) (ns : List Nat) (hp : ns.length ≤ 12) (w : World) (hS : Sq c h ns w) (d : Nat) (hd : d < 4096) (th : Bool) (v : Bs) (i : Nat) (hi : i < ns.length) :
    Calls Try.prog 44 #[ptr c.s, atV d th v, .int .i64 (i : Int)] w fun e w' => e = .returned (.bool (mayB (L h ns) d.testBit i)) ∧ Below w.heap.size w w' := by
  unfold ptr atV str
  have HB0 : Hid (Below w.heap.size w (w.alloc (.cells #[.int .i64 (d : Int), .bool th, .string ⟨v.toArray⟩] 64))) := (Below.refl _ w).alloc (Nat.le_refl _) _
  have HS1 : Hid (Sq c h ns (w.alloc (.cells #[.int .i64 (d : Int), .bool th, .string ⟨v.toArray⟩] 64))) := hS.below HB0.out
  obtain ⟨⟨x0, -, -⟩, -⟩ := cells3 (heap_alloc_new w (.cells #[.int .i64 (d : Int), .bool th, .string ⟨v.toArray⟩] 64))
  have hHI : ∃ p : Nat, (∀ n w, Calls Try.prog 43 #[.int .i64 (i : Int)] (World.drewN w n) fun e w' => e = .returned (.int .i64 (p : Int)) ∧ w' = World.drewN w n) ∧ (p : Int) ≠ 0 ∧ p ≤ 4096 ∧ Int.tmod (wrap64 ((d : Int) / (p : Int))) 2 = if d.testBit i then 1 else 0 :=
    ⟨2 ^ i, fun n w => bit_any i (by omega) _, by have := Nat.two_pow_pos i; omega, pow_le (by omega), div_bit hd i⟩
  obtain ⟨p, HBI, hp0, hp1, hdv⟩ := hHI
  have HSW := HS1.out
  generalize hW : w.alloc (.cells #[.int .i64 (d : Int), .bool th, .string ⟨v.toArray⟩] 64) = W at *
  have HB : Hid (Below w.heap.size w W) := HB0.out
  have HS : Hid (Sq c h ns W) := HSW
  have hC0 := HSW.c0
  have hC1 := HSW.c1
  have hzW : w.heap.size < W.heap.size := by rw [← hW]; simp
  clear HSW HS1 HB0
  go_enter Try.func44, Try.ntmps44
  by_cases hdi : d.testBit i = true
  · have HM : Hid (mayB (L h ns) d.testBit i = false) := may_not hdi
    rw [hdi, if_pos rfl] at hdv
    clear hdi
    go_wp2
    try rw [hW]
    go_quiet ((go_at_call 43; exact Calls.quiet_of_same (HBI _ _)))
    go_wp2
    go_ret
    exact ⟨by rw [HM.out]; rfl, bdrew HB.out⟩
  · have hdi' : d.testBit i = false := by simpa using hdi
    have HDI : Hid (d.testBit i = false) := hdi'
    rw [hdi', if_neg (by simp)] at hdv
    clear hdi hdi'
    go_wp2
    try rw [hW]
    go_quiet ((go_at_call 43; exact Calls.quiet_of_same (HBI _ _)))
    go_wp2
    clear HBI hdv hp0 hp1
    haveI hneW : Nonempty (Cw W) := ⟨⟨W, Below.refl _ _⟩⟩
    have HBZ : Hid (∀ z : Cw W, Below w.heap.size w z.w) := fun z => HB.out.trans (z.b.mono (by omega))
    go_loopw [7] (fun kv wr => ∃ k : Nat, kv = .int .i64 k ∧ k ≤ ns.length ∧ Below W.heap.size W wr ∧ ∀ j, j < k → clear1 h ns d i j = true) (fun kv _ => ns.length - (intOf kv).toNat)
    case atStart => exact ⟨0, rfl, by omega, bdrew (Below.refl _ _), fun j hj => by omega⟩
    case round =>
      obtain ⟨k, rfl, hk, hBr, hcl⟩ := hrel
      have HCL : Hid (∀ j, j < k → clear1 h ns d i j = true) := hcl
      clear hcl
      have hD1 := (hBr.cell (p := ⟨c.s, 1, none⟩) HS.out.sl).trans hC1
      by_cases hlt : k < ns.length
      · obtain ⟨g, b, off, hoa, hha, ck, hnk, ok, -, -⟩ := HS.out.at hlt
        obtain ⟨g', b', off', hoa', hha', ci, hni, oi, -, -⟩ := HS.out.at hi
        rw [hoa] at hoa'
        rw [hha] at hha'
        cases hoa'
        cases hha'
        obtain ⟨-, -, -, -, -, -, -, k7, -, -⟩ := ok
        obtain ⟨-, -, -, -, -, -, i6, -, -, -⟩ := oi
        have HC1 : Hid (clear1 h ns d i k = (decide ((nops h ns k).back = 0) || decide ((nops h ns i).call ≤ (nops h ns k).back) || d.testBit k)) := rfl
        have HNX : Hid (clear1 h ns d i k = true → ∀ j, j < k + 1 → clear1 h ns d i j = true) := fun hs j hj => by
          by_cases e : j = k
          · rw [e]; exact hs
          · exact HCL.out j (by omega)
        have HBAD : Hid (clear1 h ns d i k = false → mayB (L h ns) d.testBit i = false) := fun hc => may_bad hi hlt hc
        have hHI : ∃ p : Nat, (∀ w, Calls Try.prog 43 #[.int .i64 (k : Int)] w fun e w' => e = .returned (.int .i64 (p : Int)) ∧ Below w.heap.size w w') ∧ (p : Int) ≠ 0 ∧ p ≤ 4096 ∧ Int.tmod (wrap64 ((d : Int) / (p : Int))) 2 = if d.testBit k then 1 else 0 :=
          ⟨2 ^ k, fun w => (bit_any k (by omega) w).mono (fun e w' h => ⟨h.1, by rw [h.2]; exact Below.refl _ _⟩), by have := Nat.two_pow_pos k; omega, pow_le (by omega), div_bit hd k⟩
        obtain ⟨p, HBI, hp0, hp1, hdv⟩ := hHI
        have hE0 := hC0
        have hE1 := hC1
        rw [hha] at hE0
        rw [hoa] at hE1 hD1
        generalize (nops h ns k).back = yb at *
        generalize (nops h ns i).call = yc at *
        generalize ns.getD k 0 = nk at *
        generalize ns.getD i 0 = ni at *
        have f0 := fun z : Cw W => z.cell x0
        have f1 := fun z : Cw W => z.cell hE0
        have f2 := fun z : Cw W => z.cell hE1
        have f3 := fun z : Cw W => z.cell ck
        have f4 := fun z : Cw W => z.cell ci
        have f5 := fun z : Cw W => z.cell k7
        have f6 := fun z : Cw W => z.cell i6
        clear hha hoa HCL hC0 hC1 ck ci k7 i6 hE0 hE1
        by_cases hdk : d.testBit k = true
        · have HN2 : Hid (∀ j, j < k + 1 → clear1 h ns d i j = true) := HNX.out (by rw [HC1.out, hdk]; simp)
          rw [hdk, if_pos rfl] at hdv
          clear hdk HNX HBAD HC1
          go_wp2
          refine wp_region_cw (W := W) (by kernel_rfl) (by kernel_rfl) hBr ?_
          repeat (go_big_quiet_step (exact Cw.calls _ HBI))
          refine wpQuiet_nil ?_
          rintro _ ⟨z5, rfl⟩
          go_wp2
          refine wp_region_cw (W := W) (by kernel_rfl) (by kernel_rfl) z5.b ?_
          repeat (go_big_quiet_step (exact Cw.calls _ HBI))
          refine wpQuiet_nil ?_
          rintro _ ⟨z6, rfl⟩
          go_wp2
          exact ⟨⟨k + 1, by simp, by omega, z6.b, HN2.out⟩, by simp [intOf]; omega⟩
        · have hdk' : d.testBit k = false := by simpa using hdk
          rw [hdk', if_neg (by simp)] at hdv
          by_cases hy0 : yb = 0
          · have HN2 : Hid (∀ j, j < k + 1 → clear1 h ns d i j = true) := HNX.out (by rw [HC1.out]; simp [hy0])
            subst hy0
            clear hdk hdk' HNX HBAD HC1
            go_wp2
            refine wp_region_cw (W := W) (by kernel_rfl) (by kernel_rfl) hBr ?_
            repeat (go_big_quiet_step (exact Cw.calls _ HBI))
            refine wpQuiet_nil ?_
            rintro _ ⟨z5, rfl⟩
            go_wp2
            refine wp_region_cw (W := W) (by kernel_rfl) (by kernel_rfl) z5.b ?_
            repeat (go_big_quiet_step (exact Cw.calls _ HBI))
            refine wpQuiet_nil ?_
            rintro _ ⟨z6, rfl⟩
            go_wp2
            exact ⟨⟨k + 1, by simp, by omega, z6.b, HN2.out⟩, by simp [intOf]; omega⟩
          · have hyb : (yb != 0) = true := by simpa using hy0
            by_cases hyc : yb < yc
            · have HF : Hid (mayB (L h ns) d.testBit i = false) := HBAD.out (by rw [HC1.out, hdk']; simp [hy0]; omega)
              clear hdk hdk' HNX HBAD HC1 hy0
              go_wp2
              refine wp_region_cw (W := W) (by kernel_rfl) (by kernel_rfl) hBr ?_
              repeat (go_big_quiet_step (exact Cw.calls _ HBI))
              refine wpQuiet_nil ?_
              rintro _ ⟨z5, rfl⟩
              go_wp2
              refine wp_region_cw (W := W) (by kernel_rfl) (by kernel_rfl) z5.b ?_
              repeat (go_big_quiet_step (exact Cw.calls _ HBI))
              refine wpQuiet_nil ?_
              rintro _ ⟨z6, rfl⟩
              go_wp2
              go_ret
              exact ⟨by rw [HF.out]; rfl, HBZ.out z6⟩
            · have HN2 : Hid (∀ j, j < k + 1 → clear1 h ns d i j = true) := HNX.out (by rw [HC1.out]; simp; left; right; omega)
              clear hdk hdk' HNX HBAD HC1 hy0
              go_wp2
              refine wp_region_cw (W := W) (by kernel_rfl) (by kernel_rfl) hBr ?_
              repeat (go_big_quiet_step (exact Cw.calls _ HBI))
              refine wpQuiet_nil ?_
              rintro _ ⟨z5, rfl⟩
              go_wp2
              refine wp_region_cw (W := W) (by kernel_rfl) (by kernel_rfl) z5.b ?_
              repeat (go_big_quiet_step (exact Cw.calls _ HBI))
              refine wpQuiet_nil ?_
              rintro _ ⟨z6, rfl⟩
              go_wp2
              exact ⟨⟨k + 1, by simp, by omega, z6.b, HN2.out⟩, by simp [intOf]; omega⟩
      · have : k = ns.length := by omega
        subst this
        have HM : Hid (mayB (L h ns) d.testBit i = true) := may_good hi HDI.out HCL.out
        go_wp2
        go_ret
        exact ⟨by rw [HM.out]; rfl, HBZ.out ⟨_, hBr⟩⟩
end Go.Proofs.Ytbcnpdpdflkanaa
