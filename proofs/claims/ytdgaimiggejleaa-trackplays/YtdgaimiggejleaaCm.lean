/-
  The functions of the table, the rest.
-/
import Derived.Test.YtdgaimiggejleaaCl
namespace Go.Proofs.Ytdgaimiggejleaa
open Go.RowKit
set_option linter.unusedVariables false

theorem acked1_any (x was : Int) (w : World) : Calls Try.prog 79 #[.int .i64 x, .int .i64 was] w fun e w' => e = .returned (.tuple #[]) ∧ w' = w := by
  go_enter Try.func79, Try.ntmps79
  go_wp2
  go_returns
  exact ⟨rfl, rfl⟩

theorem rej1_any {g : Nat} {N : Nat} {S : Nat → Prop} {w : World} {b : Nat} {p : PP} (h : Pg N S w b p) (hN : N ≤ w.heap.size) (hg : w.cell? ⟨g, 0, none⟩ = some (.pointer (some ⟨b, 0, none⟩))) (hm0 : 0 ≤ p.m) (hm1 : p.m ≤ 4611686018427387904) (x y : Int) :
    Calls Try.prog 80 #[.int .i64 x, .int .i64 y, .pointer (some ⟨g, 0, none⟩)] w fun e w' => e = .returned (.bool (decide (p.m < x))) ∧ PTh N S w w' b (if p.m < x then p.re 0 else p) := by
  obtain ⟨d, ⟨⟨c0, c1, c2, c3, c4, c5⟩, cf⟩, hb, hq⟩ := h.cells
  have HR : Hid (Calls _ _ _ _ _) := restart_any h hN hm0 hm1 0
  have HS : Hid (PTh N S w w b p) := h.stay hN
  clear h hm0 hm1 hb hq
  by_cases hx : p.m < x
  · have hxd : decide (p.m < x) = true := by simpa using hx
    have hxl : decide (x ≤ p.m) = false := by simp; omega
    rw [if_pos hx, hxd]
    clear hx hxd
    go_enter Try.func80, Try.ntmps80
    go_wp2_with (go_at_call 72; refine HR.out.mono ?_; rintro r w2 ⟨rfl, ht⟩; have HT : Hid _ := ht; clear ht)
    go_ret
    exact ⟨rfl, HT.out⟩
  · have hxd : decide (p.m < x) = false := by simpa using hx
    have hxl : decide (x ≤ p.m) = true := by simp; omega
    rw [if_neg hx, hxd]
    clear hx hxd
    go_enter Try.func80, Try.ntmps80
    go_wp2
    go_ret
    exact ⟨rfl, HS.out⟩

/-- A beat's answer while replicating. -/
def PP.let1 (p : PP) : PP := if p.W.length = p.rm then { p with W := freeL p.W (p.W.headD 0) } else p

set_option maxRecDepth 100000 in
theorem beat1_any {g : Nat} {N : Nat} {S : Nat → Prop} {w : World} {b : Nat} {p : PP} (h : Pg N S w b p) (hN : N ≤ w.heap.size) (hg : w.cell? ⟨g, 0, none⟩ = some (.pointer (some ⟨b, 0, none⟩))) (hS : ¬ S g) (hgl : g < w.heap.size) (hr : 1 ≤ p.rm) :
    Calls Try.prog 81 #[.pointer (some ⟨g, 0, none⟩)] w fun e w' => e = .returned (.tuple #[]) ∧ PTh N S w w' b p.let1 := by
  obtain ⟨d, ⟨⟨c0, c1, c2, c3, c4, c5⟩, cf⟩, hb, hq⟩ := h.cells
  have HF : Hid (Calls _ _ _ _ _) := full_any hq
  have hbl := h.inn _ h.Sb
  have HK : Hid (∀ w2, Out S w w2 → w2.cell? ⟨g, 0, none⟩ = some (.pointer (some ⟨b, 0, none⟩))) := fun w2 hO => by
    have := hO.block g hgl hS
    rw [← hg]; simp only [World.cell?, this]
  by_cases hl : p.W.length = p.rm
  · have hd : decide (p.W.length = p.rm) = true := by simpa using hl
    rw [hd] at HF
    obtain ⟨x, t, hxt⟩ : ∃ x t, p.W = x :: t := by
      cases hp : p.W with
      | nil => rw [hp] at hl; simp at hl; omega
      | cons x t => exact ⟨x, t, rfl⟩
    have HI : Hid (∀ w2, Out (fun _ => False) w w2 → Calls Try.prog 82 #[.pointer (some ⟨d, 0, none⟩)] w2 fun e w' => ∃ c g5, e = .returned (.slice (some ⟨g5, 0, none⟩) p.W.length c) ∧ w'.cell? ⟨g5, 0, none⟩ = some (.int .i64 x) ∧ Out (fun _ => False) w w') := fun w2 hO =>
      (witems_any (hq.out hO (fun _ _ hf => hf))).mono (fun e w' h2 => by
        obtain ⟨v', rfl, ho, hB⟩ := h2
        obtain ⟨a, c, rfl, -, -⟩ := ho.shape
        have hsl := ho.sl (Nat.le_refl _)
        obtain ⟨a', cap, hv, -, -, hc⟩ := hsl
        cases hv
        rcases ho.2 with ⟨he, -⟩ | ⟨g5, cap5, cur, he, -, hgb, -⟩
        · rcases hc with hc | ⟨g6, off, hc, -⟩
          · rw [hxt] at hc; cases hc
          · subst hc; cases he
        · cases he
          obtain ⟨g6, off, hv6, -, hc⟩ := hc.resolve_left (by rw [hxt]; simp)
          cases hv6
          have k0 := hc 0 (by rw [hxt]; simp)
          rw [hxt] at k0
          simp at k0
          exact ⟨_, _, rfl, k0, hO.trans (Out.of_below (X := fun _ => False) hB) (fun _ h _ => h)⟩)
    have HFR : Hid (∀ w2, Out (fun _ => False) w w2 → Calls Try.prog 47 #[.pointer (some ⟨d, 0, none⟩), .int .i64 x] w2 fun e w' => ∃ k : Int, e = .returned (.int .i64 k) ∧ PTh N S w w' b p.let1) := fun w2 hO => by
      have h2 : Pg N S w2 b p := h.out hO (fun _ _ hf => hf)
      have hb2 := (hO.block b hbl (fun hf => hf)).trans hb
      have hN2 : N ≤ w2.heap.size := Nat.le_trans hN hO.size
      refine (free_any (hq.out hO (fun _ _ hf => hf)) hN2 x).mono ?_
      rintro e w' ⟨rfl, ht⟩
      refine ⟨_, rfl, ?_⟩
      have h3 := PTh.of (hO.mono (fun _ hf => hf.elim)) (h2.win hb2 hN2 ht) hN
      rw [PP.let1, if_pos hl, hxt]
      rw [hxt] at h3
      exact h3
    have HC : Hid (∀ w2, Out (fun _ => False) w w2 → w2.cell? ⟨g, 0, none⟩ = some (.pointer (some ⟨b, 0, none⟩)) ∧ w2.cell? ⟨b, 0, none⟩ = some (.pointer (some ⟨d, 0, none⟩))) := fun w2 hO => by
      have h1 := hO.block b hbl (fun hf => hf)
      exact ⟨HK.out w2 (hO.mono (fun _ hf => hf.elim)), by rw [← c0]; simp only [World.cell?, h1]⟩
    have HC2 : Hid (∀ w2, PTh N S w w2 b p.let1 → w2.cell? ⟨g, 0, none⟩ = some (.pointer (some ⟨b, 0, none⟩))) := fun w2 ht => HK.out w2 ht.out
    have hl1 : 0 < p.W.length := by rw [hxt]; simp
    clear h hb hq hxt hl hd HK
    generalize p.W.length = L at *
    go_enter Try.func81, Try.ntmps81
    go_wp2_with (go_at_call 76; refine HF.out.mono ?_; rintro r w2 ⟨rfl, n, hn⟩; have HO2 : Hid (Out (fun _ => False) w w2) := (by show Out _ _ _; rw [hn]; exact Out.drew _ _); obtain ⟨k1, k2⟩ := HC.out w2 HO2.out; clear hn)
    go_region_law (first
        | (go_simp; go_at_call 82; refine (HI.out _ (HO2.out.trans (Out.drew (X := fun _ => False) _ 1) (fun _ h _ => h))).mono ?_; rintro r w3 ⟨c3, g5, rfl, k5, hO3⟩; obtain ⟨k1, k2⟩ := HC.out w3 hO3; have HO3 : Hid (Out (fun _ => False) w w3) := hO3; clear hO3)
        | (go_simp; go_at_call 47; refine (HFR.out _ HO3.out).mono ?_; rintro r w4 ⟨k4, rfl, ht⟩; have HT : Hid (PTh N S w w4 b p.let1) := ht; clear ht)
        | fail)
    all_goals (go_wp2; go_returns; exact ⟨rfl, HT.out⟩)
  · have hd : decide (p.W.length = p.rm) = false := by simpa using hl
    rw [hd] at HF
    have HE : Hid (∀ n, PTh N S w (w.drewN n) b p.let1) := fun n => by
      rw [PP.let1, if_neg hl]
      exact (h.out (Out.drew (X := fun _ => False) w n) (fun _ _ hf => hf)).to (Out.drew _ _) hN
    clear h hb hq
    go_enter Try.func81, Try.ntmps81
    go_wp2_with (go_at_call 76; refine HF.out.mono ?_; rintro r w2 ⟨rfl, n, hn⟩; have HN : Hid (w2 = w.drewN n) := hn; clear hn)
    go_returns
    exact ⟨rfl, by rw [HN.out]; exact HE.out n⟩

theorem may2_any (w : World) : Calls Try.prog 83 #[] w fun e w' => e = .returned (.bool false) ∧ w' = w := by
  go_enter Try.func83, Try.ntmps83
  go_wp2
  go_ret
  exact ⟨rfl, rfl⟩
theorem sent2_any (x : Int) (w : World) : Calls Try.prog 84 #[.int .i64 x] w fun e w' => e = .returned (.tuple #[]) ∧ w' = w := by
  go_enter Try.func84, Try.ntmps84
  go_wp2
  go_returns
  exact ⟨rfl, rfl⟩
theorem acked2_any {g : Nat} {N : Nat} {S : Nat → Prop} {w : World} {b : Nat} {p : PP} (h : Pg N S w b p) (hN : N ≤ w.heap.size) (hg : w.cell? ⟨g, 0, none⟩ = some (.pointer (some ⟨b, 0, none⟩))) (hm0 : 0 ≤ p.m) (hm1 : p.m ≤ 4611686018427387904) (x y : Int) :
    Calls Try.prog 85 #[.int .i64 x, .int .i64 y, .pointer (some ⟨g, 0, none⟩)] w fun e w' => e = .returned (.tuple #[]) ∧ PTh N S w w' b (if p.sn ≤ p.m then p.re 0 else p) := by
  obtain ⟨d, ⟨⟨c0, c1, c2, c3, c4, c5⟩, cf⟩, hb, hq⟩ := h.cells
  have HR : Hid (∀ n, Calls Try.prog 72 #[.pointer (some ⟨b, 0, none⟩), .int .i64 0] (w.drewN n) fun e w' => e = .returned (.tuple #[]) ∧ PTh N S w w' b (p.re 0)) := fun n =>
    (restart_any (h.out (Out.drew (X := fun _ => False) w n) (fun _ _ hf => hf)) hN hm0 hm1 0).mono (fun e w' h2 => ⟨h2.1, PTh.of (Out.drew _ _) h2.2 hN⟩)
  have HS : Hid (∀ n, PTh N S w (w.drewN n) b p) := fun n => (h.out (Out.drew (X := fun _ => False) w n) (fun _ _ hf => hf)).to (Out.drew _ _) hN
  clear h hm0 hm1 hb hq
  by_cases hx : p.sn ≤ p.m
  · rw [if_pos hx]
    go_enter Try.func85, Try.ntmps85
    go_wp2_with fail
    go_quiet (fail)
    go_wp2_with (go_at_call 72; refine (HR.out _).mono ?_; rintro r w2 ⟨rfl, ht⟩; have HT : Hid _ := ht; clear ht)
    go_returns
    exact ⟨rfl, HT.out⟩
  · rw [if_neg hx]
    go_enter Try.func85, Try.ntmps85
    go_wp2
    go_quiet (fail)
    go_wp2
    go_returns
    exact ⟨rfl, HS.out _⟩
theorem rej2_any (x y : Int) (w : World) : Calls Try.prog 86 #[.int .i64 x, .int .i64 y] w fun e w' => e = .returned (.bool false) ∧ w' = w := by
  go_enter Try.func86, Try.ntmps86
  go_wp2
  go_ret
  exact ⟨rfl, rfl⟩
theorem beat2_any {g : Nat} {N : Nat} {S : Nat → Prop} {w : World} {b : Nat} {p : PP} (h : Pg N S w b p) (hN : N ≤ w.heap.size) (hg : w.cell? ⟨g, 0, none⟩ = some (.pointer (some ⟨b, 0, none⟩))) (hm0 : 0 ≤ p.m) (hm1 : p.m ≤ 4611686018427387904) :
    Calls Try.prog 87 #[.pointer (some ⟨g, 0, none⟩)] w fun e w' => e = .returned (.tuple #[]) ∧ PTh N S w w' b (p.re 0) := by
  have HR : Hid (Calls _ _ _ _ _) := restart_any h hN hm0 hm1 0
  clear h hm0 hm1
  go_enter Try.func87, Try.ntmps87
  go_wp2_with (go_at_call 72; refine HR.out.mono ?_; rintro r w2 ⟨rfl, ht⟩; have HT : Hid _ := ht; clear ht)
  go_returns
  exact ⟨rfl, HT.out⟩
end Go.Proofs.Ytdgaimiggejleaa
