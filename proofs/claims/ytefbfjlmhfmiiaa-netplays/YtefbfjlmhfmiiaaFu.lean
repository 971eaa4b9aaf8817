/-
  NetFull: the law.
-/
import Derived.Test.YtefbfjlmhfmiiaaDa
import Derived.Test.YtefbfjlmhfmiiaaFi
import Derived.Test.YtefbfjlmhfmiiaaRin
import Derived.Deep.QuietTactic
import Derived.BigQuiet
namespace Go.Proofs.Ytefbfjlmhfmiiaa
open Go.RowKit
set_option linter.unusedVariables false

/-- What stands between operations: both networks, so many sent or copied, so many links cut. -/
def FS (G : Nat) (w wr : World) (b c : Nat) (m n : Nat) : Prop := ∃ P S T C, Bo G S T wr b c P C ∧ Below G w wr ∧ P.k ≤ m ∧ C.length ≤ n

theorem FS.len {G : Nat} {w wr : World} {b c m n : Nat} (h : FS G w wr b c m n) : ∃ (q : Nat) (va : Option Addr) (vn : Nat), q ≤ 2000 ∧ (∀ n, Calls Try.prog 14 #[.pointer (some ⟨b, 0, none⟩)] (wr.drewN n) (fun e w' => e = .returned (.int .i64 (q : Int)) ∧ w' = wr.drewN n)) ∧ wr.cell? ⟨c, 1, none⟩ = some (.slice va q vn) ∧ c < wr.heap.size := by
  obtain ⟨P, S, T, C, hBo, -, -, -⟩ := h
  obtain ⟨va, vn, es, ca, cn, hm, -, -, -, -, -, -⟩ := hBo.rn.cells
  have hc := hBo.rn.inn _ hBo.rn.Sb
  refine ⟨P.E.length, va, vn, hBo.rn.ok.row, fun n => Len_any (hBo.nt.drewN n), ?_, hc⟩
  simp only [World.cell?, hm.blk]; rfl

theorem FS.bel {G : Nat} {w wr : World} {b c m n : Nat} (h : FS G w wr b c m n) : Below G w wr := by
  obtain ⟨P, S, T, C, -, hB, -, -⟩ := h; exact hB
theorem FS.drewN {G : Nat} {w wr : World} {b c m n : Nat} (h : FS G w wr b c m n) (k : Nat) : FS G w (wr.drewN k) b c m n := by
  obtain ⟨P, S, T, C, h1, h2, h3, h4⟩ := h
  exact ⟨P, S, T, C, h1.off (X := fun _ => False) (Out.drew _ _) (fun _ _ q => q) (fun _ _ q => q), below_drewN h2 k, h3, h4⟩
theorem FS.mono {G : Nat} {w wr : World} {b c m n m' n' : Nat} (h : FS G w wr b c m n) (hm : m ≤ m') (hn : n ≤ n') : FS G w wr b c m' n' := by
  obtain ⟨P, S, T, C, h1, h2, h3, h4⟩ := h
  exact ⟨P, S, T, C, h1, h2, by omega, by omega⟩
theorem FS.does {G : Nat} {w wr : World} {b c m n : Nat} (h : FS G w wr b c m n) (hG : G ≤ w.heap.size) (hm : m < 100000) (hn : n < 100000) (kd A B : Int) (up : Bool) (da : Option Addr) (dc : Nat) (d : List UInt8) (hsl : Sl G w (.slice da d.length dc) d) (hB : B ≤ 9223372036854775807) (hl : d.length ≤ 140737488351232) :
    Calls Try.prog 11 #[.pointer (some ⟨b, 0, none⟩), .pointer (some ⟨c, 0, none⟩), .agg #[.int .i64 kd, .int .i64 A, .int .i64 B, .bool up, .slice da d.length dc]] wr fun r w' => r = .returned (.bool true) ∧ FS G w w' b c (m + 1) (n + 1) := by
  obtain ⟨P, S, T, C, h1, h2, h3, h4⟩ := h
  have hz := h2.size
  refine (does_any h1 (by omega) (by omega) (by omega) kd A B up da dc d (hsl.below h2) (Nat.le_refl _) hB hl).mono ?_
  rintro r w' ⟨rfl, P', S', T', C', q1, q2, q3, q4⟩
  exact ⟨rfl, P', S', T', C', q1, h2.trans q2, by omega, by omega⟩
theorem FS.send {G : Nat} {w wr : World} {b c m n : Nat} (h : FS G w wr b c m n) (hG : G ≤ w.heap.size) (hm : m < 100000) (hn : n < 100000) (f t : Int) :
    Calls Try.prog 15 #[.pointer (some ⟨b, 0, none⟩), .int .i64 f, .int .i64 t, .slice none 0 0] wr fun r w2 => ∃ u, r = .returned (.bool u) ∧ Calls Try.prog 16 #[.pointer (some ⟨c, 0, none⟩), .int .i64 f, .int .i64 t, .slice none 0 0] w2 fun r w3 => r = .returned (.bool u) ∧ FS G w w3 b c (m + 1) n := by
  obtain ⟨P, S, T, C, h1, h2, h3, h4⟩ := h
  have hz := h2.size
  refine (Send_any h1.nt (by omega) f t none [] 0 (by simp) (fun w' _ => Sl.nil _ _) (by omega)).mono ?_
  rintro r w2 ⟨rfl, q2⟩
  have hz2 := q2.out.size
  refine ⟨_, rfl, (RSend_any (h1.mid q2) (by omega) f t none [] 0 (by simp) (fun w' _ => Sl.nil _ _) (by omega) (by omega)).mono ?_⟩
  rintro r w3 ⟨rfl, q3⟩
  obtain ⟨q4, q5⟩ := h1.step (by omega) q2 q3
  exact ⟨rfl, _, _, _, _, q4, h2.trans q5, by have := P.send_k9 f t []; omega, h4⟩

set_option maxRecDepth 100000 in
set_option maxHeartbeats 8000000 in
theorem full_walk (more : Int) (hm : In64 more) (a : Option Addr) (c0 : Nat) (l : List Opn) (w : World) (h : OpsAt w.heap.size w a l) (hl : l.length ≤ 9223372036854775807) (hin : ∀ i, i < l.length → OpnIn (l.getD i nilOpn)) :
    Calls Try.prog 4 #[.int .i64 more, .slice a l.length c0] w fun e w' => e = .returned (.bool true) ∧ Below w.heap.size w w' := by
  have HO : Hid (OpsAt w.heap.size w a l) := h
  have HIN : Hid (∀ i, i < l.length → OpnIn (l.getD i nilOpn)) := hin
  obtain ⟨hm1, hm2⟩ := hm
  clear h hin
  go_enter Try.func4, Try.ntmps4
  go_wp2_with fail
  refine (first_any w).mono ?_
  rintro e w1 ⟨rfl, hB1⟩
  have HB1 : Hid (Below w.heap.size w w1) := hB1
  have hz1 := hB1.size
  clear hB1
  go_wp2_with fail
  refine (few_any a c0 l w.heap.size w1 (HO.out.below HB1.out) hz1 hl).mono ?_
  rintro e w2 ⟨t, rfl, ht, hw⟩
  subst w2
  have HT : Hid (t = true → l.length ≤ 300) := ht
  clear ht
  cases t with
  | false =>
    go_wp2
    go_ret
    exact ⟨rfl, HB1.out⟩
  | true =>
    have hl3 : l.length ≤ 300 := HT.out rfl
    clear HT
    go_wp2_with fail
    refine (New_any 2 (by omega) (by omega) w1).mono ?_
    rintro e w3 ⟨b, S, L, rfl, hNt, hLA, hB3⟩
    have HRN : Hid (Calls _ _ _ _ _) := RNew_any 2 (by omega) (by omega) hNt.ok hLA w3
    have HN3 : Hid (Nt w1.heap.size S w3 b (newN 2 L)) := hNt
    have HB3 : Hid (Below w.heap.size w w3 ∧ w1.heap.size ≤ w3.heap.size) := ⟨HB1.out.trans (hB3.mono hz1), hB3.size⟩
    clear hNt hB3 HB1 hLA
    go_wp2_with fail
    refine HRN.out.mono ?_
    rintro e w4 ⟨c, T, rfl, hRn, hB4⟩
    have HFS : Hid (FS w.heap.size w w4 b c 0 0) := ⟨_, _, _, _, Bo.start HN3.out hRn hB4 hz1 HB3.out.2, HB3.out.1.trans (hB4.mono (by have := HB3.out; omega)), by simp [newN], by simp⟩
    clear hRn hB4 HB3 HN3 HRN
    have t1 : -3 < more.tmod 3 := by have := Int.lt_tmod_of_pos more (b := 3) (by omega); omega
    have t2 : more.tmod 3 < 3 := Int.tmod_lt_of_pos _ (by omega)
    go_wp2_with fail
    obtain ⟨k, hk⟩ : ∃ k : Nat, 2000 + more.tmod 3 % 3 - 1 = (k : Int) := ⟨(2000 + more.tmod 3 % 3 - 1).toNat, by omega⟩
    have hk2 : k ≤ 2001 := by omega
    rw [hk]
    clear hk t1 t2
    generalize (more.tmod 3 + 3) % 3 = z1
    generalize 2000 + more.tmod 3 % 3 = z2
    generalize more.tmod 3 = z3
    clear hm1 hm2
    obtain ⟨G, hG⟩ : ∃ G, w.heap.size = G := ⟨_, rfl⟩
    have HG : Hid (w.heap.size = G) := hG
    rw [hG] at HFS HO
    clear hG
    go_loopw [10] (fun iv wr => ∃ i : Nat, iv = .int .i64 (i : Int) ∧ i ≤ k ∧ FS G w wr b c i 0) (fun iv _ => k - (intOf iv).toNat)
    case atStart => exact ⟨0, rfl, Nat.zero_le _, HFS.out⟩
    case round =>
      obtain ⟨i, rfl, hi, hFS⟩ := hrel
      have HF : Hid (FS G w wr b c i 0) := hFS
      clear hFS HFS
      by_cases hlt : i < k
      · have hlt' : (i : Int) < (k : Int) := by omega
        have i0 : (0 : Int) ≤ (i : Int) := by omega
        have HS : Hid (∀ f t : Int, Calls _ _ _ _ _) := fun f t => HF.out.send (by rw [← HG.out]; exact Nat.le_refl _) (by omega) (by omega) f t
        go_wp2_with fail
        refine (HS.out _ _).mono ?_
        rintro e w5 ⟨u, rfl, hc5⟩
        have HC5 : Hid (Calls _ _ _ _ _) := hc5
        clear hc5 HS HF
        go_wp2_with fail
        refine HC5.out.mono ?_
        rintro e w6 ⟨rfl, hF6⟩
        have HF6 : Hid (FS G w w6 b c (i + 1) 0) := hF6
        clear hF6 HC5
        cases u
        all_goals
          go_wp2
          exact ⟨⟨i + 1, by go_num, by omega, HF6.out⟩, by simp [intOf]; omega⟩
      · have hlt' : ¬ (i : Int) < (k : Int) := by omega
        have HF2 : Hid (FS G w wr b c 2001 0) := HF.out.mono (by omega) (Nat.le_refl _)
        clear HF
        go_wp2_with fail
        go_loopw [11] (fun iv wr => ∃ i : Nat, iv = .int .i64 (i : Int) ∧ i ≤ l.length ∧ FS G w wr b c (2001 + i) i) (fun iv _ => l.length - (intOf iv).toNat)
        case atStart => exact ⟨0, rfl, Nat.zero_le _, HF2.out⟩
        case round =>
          obtain ⟨i, rfl, hi, hFS⟩ := hrel
          have HF : Hid (FS G w wr b c (2001 + i) i) := hFS
          clear hFS HF2
          by_cases hlt : i < l.length
          · obtain ⟨ab, off, hea, hb, he⟩ := HO.out.at hlt
            subst hea
            have hon := HIN.out i hlt
            have he1 := he.below hb HF.out.bel
            have hda := he.2
            generalize l.getD i nilOpn = o at *
            obtain ⟨kd, oa, ob, up, da, dc, d⟩ := o
            obtain ⟨⟨c0, c1, c2, c3, c4⟩, -⟩ := he1
            unfold Opn.x at c4 hda
            simp only at c0 c1 c2 c3 c4 hda
            have HC : Hid (Calls _ _ _ _ _) := HF.out.does (by rw [← HG.out]; exact Nat.le_refl _) (by omega) (by omega) kd oa ob up da dc d hda hon.1 hon.2
            have i0 : (0 : Int) ≤ (i : Int) := by omega
            have i1 : (i : Int) < (l.length : Int) := by omega
            have hbw : ab < wr.heap.size := by have := HF.out.bel.size; have := HG.out; omega
            clear he hda hb hon HF
            go_wp2_with fail
            refine HC.out.mono ?_
            rintro e w5 ⟨rfl, hF5⟩
            have HF5 : Hid (FS G w w5 b c (2001 + i + 1) (i + 1)) := hF5
            obtain ⟨q, va, vn, hq, hLn, hcl, hcw⟩ := hF5.len
            have HLN : Hid (∀ n : Nat, Calls _ _ _ _ _) := hLn
            clear hF5 hLn HC c0 c1 c2 c3 c4
            go_wp2_with fail
            go_quiet ((go_at_call 14; exact Calls.quiet_of_same (HLN.out _)))
            go_wp2
            exact ⟨⟨i + 1, by go_num, by omega, (HF5.out.drewN _).mono (by omega) (Nat.le_refl _)⟩, by simp [intOf]; omega⟩
          · have hlt' : ¬ (i : Int) < (l.length : Int) := by omega
            go_wp2
            go_ret
            exact ⟨rfl, by rw [HG.out]; exact HF.out.bel⟩
end Go.Proofs.Ytefbfjlmhfmiiaa
