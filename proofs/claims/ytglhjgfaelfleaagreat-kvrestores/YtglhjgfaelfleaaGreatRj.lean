/-
  The pairs by rising keys, the sessions by rising clients: new lists.
-/
import Derived.Test.YtglhjgfaelfleaaGreatRi
namespace Go.Proofs.YtglhjgfaelfleaaGreat
open Go.RowKit Go.Shelf Go.Sort

theorem Ro.ne_iter {α : Type} {R : RK α} {H : Type} {P : Program} {k : TypeId} {RR : Value → Option (DataW H × List MemPlace)} {w : World} {b r n : Nat} {D : DataW H} {left : Lit → Bool} {cnt N : Nat} {v : Value} {xs : List α}
    (h : Ro R N w v xs) (hr : w.ranges P k RR b r n D left cnt) : v.ownBlock = none ∨ v.ownBlock ≠ some r := by
  obtain ⟨_, _, _, _, _, _, _, _, _, hit, _⟩ := hr
  rcases h.2 with ⟨rfl, _⟩ | ⟨g, cap, cur, rfl, _, hb, _⟩
  · exact .inl rfl
  · right
    intro e1
    have : g = r := by simpa [Value.ownBlock] using e1
    subst this
    rw [hit] at hb
    cases hb

theorem insertion_nilP (p : Option Addr) (cap : Nat) (f : Value) (w : World) :
    Calls Tryz.prog 116 #[.slice p 0 cap, .int .i64 0, .int .i64 0, f] w fun e w' => e = .returned (.tuple #[]) ∧ w' = w := by
  go_enter Tryz.func116, Tryz.ntmps116
  go_wp2
  refine wp_loop_rounds 1 ?_
  rw [rounds_succ]
  go_wp2
  go_end0
  exact ⟨rfl, rfl⟩
set_option maxRecDepth 100000 in
theorem pdq_nilP (p : Option Addr) (cap : Nat) (f : Value) (w : World) :
    Calls Tryz.prog 107 #[.slice p 0 cap, .int .i64 0, .int .i64 0, .int .i64 0, f] w fun e w' => e = .returned (.tuple #[]) ∧ w' = w := by
  go_enter Tryz.func107, Tryz.ntmps107
  go_wp2
  refine wp_loop_rounds 1 ?_
  rw [rounds_succ]
  go_wp2_with (first | (go_at_call 116; refine (insertion_nilP p cap f _).mono ?_; rintro e w' ⟨rfl, rfl⟩))
  refine bodyPost_ret (results_none rfl _ _ _) rfl ?_
  exact ⟨rfl, rfl⟩
theorem len0P (w : World) : Calls Tryz.prog 81 #[.int .u64 0] w fun e w' => e = .returned (.int .i64 0) ∧ w' = w := by
  have h := Any.bits_Len (SlLaysF0.n15.bits (P := Tryz.prog) (ρ := Tryz.sortP_ren) { Tryz.sortP with }) 0 w (by omega) (by omega)
  exact h
set_option maxRecDepth 100000 in
theorem sort_nilP (p : Option Addr) (cap : Nat) (f : Value) (w : World) :
    Calls Tryz.prog 91 #[.slice p 0 cap, f] w fun e w' => e = .returned (.tuple #[]) ∧ w' = w := by
  go_enter Tryz.func91, Tryz.ntmps91
  go_wp2_with (first
    | (go_at_call 81; refine (len0P _).mono ?_; rintro e w' ⟨rfl, rfl⟩)
    | (go_at_call 107; refine (pdq_nilP p cap f _).mono ?_; rintro e w' ⟨rfl, rfl⟩))
  go_end0
  exact ⟨rfl, rfl⟩

theorem insertion_nilS (p : Option Addr) (cap : Nat) (f : Value) (w : World) :
    Calls Tryz.prog 94 #[.slice p 0 cap, .int .i64 0, .int .i64 0, f] w fun e w' => e = .returned (.tuple #[]) ∧ w' = w := by
  go_enter Tryz.func94, Tryz.ntmps94
  go_wp2
  refine wp_loop_rounds 1 ?_
  rw [rounds_succ]
  go_wp2
  go_end0
  exact ⟨rfl, rfl⟩
set_option maxRecDepth 100000 in
theorem pdq_nilS (p : Option Addr) (cap : Nat) (f : Value) (w : World) :
    Calls Tryz.prog 80 #[.slice p 0 cap, .int .i64 0, .int .i64 0, .int .i64 0, f] w fun e w' => e = .returned (.tuple #[]) ∧ w' = w := by
  go_enter Tryz.func80, Tryz.ntmps80
  go_wp2
  refine wp_loop_rounds 1 ?_
  rw [rounds_succ]
  go_wp2_with (first | (go_at_call 94; refine (insertion_nilS p cap f _).mono ?_; rintro e w' ⟨rfl, rfl⟩))
  refine bodyPost_ret (results_none rfl _ _ _) rfl ?_
  exact ⟨rfl, rfl⟩
theorem len0S (w : World) : Calls Tryz.prog 81 #[.int .u64 0] w fun e w' => e = .returned (.int .i64 0) ∧ w' = w := by
  have h := Any.bits_Len (SlLaysF0.n15.bits (P := Tryz.prog) (ρ := Tryz.sortS_ren) { Tryz.sortS with }) 0 w (by omega) (by omega)
  exact h
set_option maxRecDepth 100000 in
theorem sort_nilS (p : Option Addr) (cap : Nat) (f : Value) (w : World) :
    Calls Tryz.prog 56 #[.slice p 0 cap, f] w fun e w' => e = .returned (.tuple #[]) ∧ w' = w := by
  go_enter Tryz.func56, Tryz.ntmps56
  go_wp2_with (first
    | (go_at_call 81; refine (len0S _).mono ?_; rintro e w' ⟨rfl, rfl⟩)
    | (go_at_call 80; refine (pdq_nilS p cap f _).mono ?_; rintro e w' ⟨rfl, rfl⟩))
  go_end0
  exact ⟨rfl, rfl⟩

theorem sort_anyP (g cap : Nat) (xs got : List (Bs × Bs)) (w : World) (N : Nat) (hr : Ris kP xs) (hp : got.Perm xs) (hv : Ro RP N w (.slice (some ⟨g, 0, none⟩) got.length cap) got) (hN : N ≤ w.heap.size) (hl : got.length ≤ 1000000) :
    Calls Tryz.prog 91 #[.slice (some ⟨g, 0, none⟩) got.length cap, .func (.func 92) #[] #[]] w fun e w' => e = .returned (.tuple #[]) ∧ Ro RP N w' (.slice (some ⟨g, 0, none⟩) xs.length cap) xs ∧ Below N w w' := by
  have eg : ∀ args w, (callFunc 92 args).run Tryz.prog w = .ok (.enter 92 args) w := enters_of Tryz.func92 (by kernel_rfl) rfl
  rcases hv.2 with ⟨h1, _⟩ | ⟨g', cap', cur, hs, hN', hb, h3, h4, h5, h6⟩
  · cases h1
  · cases hs
    have hcon := AnyQ.slices_SortFunc Tryz.sortP RP.k (fun w => by kernel_rfl) (fun w => by kernel_rfl) RP.enc RP.len RP.one (fun x y : (Bs × Bs) => cfS x.1 y.1) swoS 92 #[] g 0 cap got.toArray w eg (fun _ _ _ _ x y => closeP x y _) (Ro.holds hb h6) (Array.getElem?_eq_some_iff.1 hb).1 (by simp; omega)
    have e0 : got.toArray.size = got.length := by simp
    rw [e0] at hcon
    refine Calls.mono hcon ?_
    rintro e w' ⟨he, d', n, os, hpm, hso, rfl⟩
    have hd : d'.toList = xs := sorted_eq (κ := kP) (cf := fun x y : (Bs × Bs) => cfS x.1 y.1) lt_cfS (fun x y h1 h2 => by have h1' : bytesBefore x.1 y.1 = true := h1; have h2' : bytesBefore y.1 x.1 = true := h2; have := WideShapes.bytes_trans _ _ _ h1' h2'; rw [WideAt.bytes_irrefl] at this; cases this) (fun x y hne => WideAt.bytes_total x.1 y.1 (fun e => hne (by simp [kP, e]))) hr (ris_neP hr) hp (by rw [e0]; exact hpm) (by rw [e0]; exact hso)
    have hd2 : d' = xs.toArray := by rw [← hd]
    subst hd2
    refine ⟨he, ?_, (Below.refl _ w).grown (sortedK_grown (R := RP) _) hN (fun j hj => by cases hj; exact hN')⟩
    have hlen := hp.length_eq
    rw [← hlen]
    exact sortedK_row hlen.symm hN' hb h3 h4 h5

set_option maxRecDepth 100000 in
set_option maxHeartbeats 2000000 in
theorem rising_any {w : World} {b mp ms : Nat} {K : KV} (h : St w b mp ms K) :
    Calls Tryz.prog 79 #[.pointer (some ⟨b, 0, none⟩)] w fun e w' => ∃ v, e = .returned v ∧ Ro RP w.heap.size w' v K.ps ∧ Below w.heap.size w w' := by
  obtain ⟨c0, c1⟩ := h.cells
  have hm := h.hp
  have hmS : mp < w.heap.size := hm.lt
  have HR : Hid (Ris kP K.ps) := h.risP
  have HLE : Hid (K.ps.length ≤ 200) := by have := h.ok.few; have := h.ok.fewS; show _ ≤ _; omega
  clear h
  generalize K.ps = xs at *
  go_enter Tryz.func79, Tryz.ntmps79
  go_wp2_with (first
    | (at_range; refine wpList_range_own _ rfl _ 71 rfl 9 74 lawS Tryz.underlying71 rdV mp xs.length _ rfl hm ?_; intro w1 hrg0 hg0 hs0)
    | go_in)
  go_frame
  go_loopw [3] (fun sv wr => ∃ (left : Lit → Bool) (cnt : Nat) (got rs : List (Bs × Bs)), wr.ranges Tryz.prog 9 rdV mp w.heap.size xs.length (entsL kP pairV xs) left cnt ∧ Left kP xs got rs left ∧ Below w.heap.size w wr ∧ Ro RP w.heap.size wr sv got)
    (fun _ wr => wr.rangeLeft mp w.heap.size)
  case atStart => exact ⟨_, _, [], xs, hrg0, left_start keyP _ _, (Below.refl _ w).grown hg0 (Nat.le_refl _) (fun k e => by cases e), Ro.nil _ _ _⟩
  case round =>
    obtain ⟨left, cnt, got, rs, hrg, hL, hB, hro⟩ := hrel
    have hlen : got.length ≤ 200 := by have h1 := hL.1.length_eq; have h2 := HLE.out; simp at h1; omega
    obtain ⟨a0, cp0, rfl, -, -⟩ := hro.shape
    have HRO : Hid (Ro RP w.heap.size wr (.slice a0 got.length cp0) got) := hro
    have HL : Hid (Left kP xs got rs left) := hL
    have HB : Hid _ := hB
    have HRG : Hid (wr.ranges Tryz.prog 9 rdV mp w.heap.size xs.length (entsL kP pairV xs) left cnt) := hrg
    clear hro hL hB
    go_wp2_with (first
      | (at_next; refine wpList_next_P rfl _ rfl mp w.heap.size xs.length xs got rs left cnt HR.out HL.out rfl hrg ?_ ?_)
      | go_in)
    · intro hperm
      clear hrg
      by_cases hz : got = []
      · subst hz
        have hx : xs = [] := hperm.symm.eq_nil
        subst hx
        rcases HRO.out.2 with ⟨h1, _⟩ | ⟨g, cap, cur, h1, _⟩
        · cases h1
          go_wp2_with (go_at_call 91; refine (sort_nilP none 0 _ _).mono ?_; rintro e w' ⟨rfl, rfl⟩)
          go_ret
          exact ⟨_, rfl, Ro.nil _ _ _, HB.out⟩
        · cases h1
          go_wp2_with (go_at_call 91; refine (sort_nilP _ _ _ _).mono ?_; rintro e w' ⟨rfl, rfl⟩)
          go_ret
          exact ⟨_, rfl, HRO.out, HB.out⟩
      · obtain ⟨g, cap, h1, -⟩ := HRO.out.at0 (List.length_pos_iff.2 hz)
        cases h1
        have HC := sort_anyP g cp0 xs got wr w.heap.size HR.out hperm HRO.out HB.out.size (by omega)
        have HCC : Hid (Calls _ _ _ _ _) := HC
        have HLL : Hid (got.length = xs.length) := hperm.length_eq
        clear HC
        go_wp2_with (go_at_call 91; refine HCC.out.mono ?_; rintro e w5 ⟨rfl, hro5, hB5⟩; have HR5 : Hid (Ro RP w.heap.size w5 _ xs) := hro5; have HB5 : Hid _ := hB5; clear hro5 hB5)
        go_ret
        exact ⟨_, rfl, by rw [HLL.out]; exact HR5.out, HB.out.trans HB5.out⟩
    · intro x1 x2 w2 cnt2 rs2 left2 hx hL2 hrg2 hlt hg2 hs2 hen
      try dsimp only at hen
      have hB2 : Below w.heap.size w w2 := HB.out.grown hg2 HB.out.size (fun k e => by cases e; exact Nat.le_refl _)
      have hro2 : Ro RP w.heap.size w2 (.slice a0 got.length cp0) got := HRO.out.kept hg2 (HRO.out.ne_iter HRG.out)
      have HRO2 : Hid (Ro RP w.heap.size w2 (.slice a0 got.length cp0) got) := hro2
      have HB2 : Hid (Below w.heap.size w w2) := hB2
      have HRG2 : Hid (w2.ranges Tryz.prog 9 rdV mp w.heap.size xs.length (entsL kP pairV xs) left2 cnt2) := hrg2
      have HL2 : Hid (Left kP xs (got ++ [⟨x1, x2⟩]) rs2 left2) := hL2
      have HLT : Hid _ := hlt
      clear hro2 hB2 hrg2 hL2 hlt hs2 hg2 hrg HRO HB
      go_wp2_with (at_builtin; refine wpList_append_ro RP rfl _ _ rfl w.heap.size _ got ⟨x1, x2⟩ rfl (HRO2.out.alloc _) rfl (by simp) (by omega) (by have := HB2.out.size; simp; omega) ?_; intro v' w3 hro3 hg3 hob3; obtain ⟨a3, cp3, rfl, -, -⟩ := hro3.shape; have HRO3 : Hid (Ro RP w.heap.size w3 _ (got ++ [⟨x1, x2⟩])) := hro3; have HG3 : Hid _ := hg3; clear hro3 hg3 hob3)
      go_roundw
      case rel =>
        have hrA := (HRG2.out.alloc (.cells #[.string ⟨x1.toArray⟩,.string ⟨x2.toArray⟩] 74)).alloc (.cells #[.string ⟨x1.toArray⟩,.string ⟨x2.toArray⟩] 74)
        refine ⟨left2, cnt2, got ++ [⟨x1, x2⟩], rs2, hrA.kept HG3.out ?_ ?_, HL2.out, ?_, by simpa using HRO3.out⟩
        · intro e; have := (HRO2.out.lt e.symm).1; omega
        · intro e; exact (HRO2.out.ne_iter HRG2.out).elim (fun h => by cases e.trans h) (fun h => h e.symm)
        · exact (Below.alloc' (Below.alloc' HB2.out _) _).grown HG3.out (Below.alloc' (Below.alloc' HB2.out _) _).size (fun j e => (HRO2.out.lt e).1)
      case measure =>
        have hrA := (HRG2.out.alloc (.cells #[.string ⟨x1.toArray⟩,.string ⟨x2.toArray⟩] 74)).alloc (.cells #[.string ⟨x1.toArray⟩,.string ⟨x2.toArray⟩] 74)
        have hrB := hrA.kept HG3.out (fun e => by have := (HRO2.out.lt e.symm).1; omega) (fun e => (HRO2.out.ne_iter HRG2.out).elim (fun h => by cases e.trans h) (fun h => h e.symm))
        rw [hrB.left_eq, HRG.out.left_eq]; exact HLT.out

theorem sort_anyS (g cap : Nat) (xs got : List Se) (w : World) (N : Nat) (hr : Ris kS xs) (hp : got.Perm xs) (hv : Ro RS N w (.slice (some ⟨g, 0, none⟩) got.length cap) got) (hN : N ≤ w.heap.size) (hl : got.length ≤ 1000000) :
    Calls Tryz.prog 56 #[.slice (some ⟨g, 0, none⟩) got.length cap, .func (.func 57) #[] #[]] w fun e w' => e = .returned (.tuple #[]) ∧ Ro RS N w' (.slice (some ⟨g, 0, none⟩) xs.length cap) xs ∧ Below N w w' := by
  have eg : ∀ args w, (callFunc 57 args).run Tryz.prog w = .ok (.enter 57 args) w := enters_of Tryz.func57 (by kernel_rfl) rfl
  rcases hv.2 with ⟨h1, _⟩ | ⟨g', cap', cur, hs, hN', hb, h3, h4, h5, h6⟩
  · cases h1
  · cases hs
    have hcon := AnyQ.slices_SortFunc Tryz.sortS RS.k (fun w => by kernel_rfl) (fun w => by kernel_rfl) RS.enc RS.len RS.one (fun x y : Se => cfI x.cl y.cl) swoI 57 #[] g 0 cap got.toArray w eg (fun _ _ _ _ x y => closeS x y _) (Ro.holds hb h6) (Array.getElem?_eq_some_iff.1 hb).1 (by simp; omega)
    have e0 : got.toArray.size = got.length := by simp
    rw [e0] at hcon
    refine Calls.mono hcon ?_
    rintro e w' ⟨he, d', n, os, hpm, hso, rfl⟩
    have hd : d'.toList = xs := sorted_eq (κ := kS) (cf := fun x y : Se => cfI x.cl y.cl) lt_cfI (fun x y h1 h2 => by simp [kS, Lit.before] at h1 h2; omega) (fun x y hne => by have : x.cl ≠ y.cl := fun e => hne (by simp [kS, e]); simp [kS, Lit.before]; omega) hr (ris_neS hr) hp (by rw [e0]; exact hpm) (by rw [e0]; exact hso)
    have hd2 : d' = xs.toArray := by rw [← hd]
    subst hd2
    refine ⟨he, ?_, (Below.refl _ w).grown (sortedK_grown (R := RS) _) hN (fun j hj => by cases hj; exact hN')⟩
    have hlen := hp.length_eq
    rw [← hlen]
    exact sortedK_row hlen.symm hN' hb h3 h4 h5

set_option maxRecDepth 100000 in
set_option maxHeartbeats 2000000 in
theorem sessions_any {w : World} {b mp ms : Nat} {K : KV} (h : St w b mp ms K) :
    Calls Tryz.prog 33 #[.pointer (some ⟨b, 0, none⟩)] w fun e w' => ∃ v, e = .returned v ∧ Ro RS w.heap.size w' v K.ss ∧ Below w.heap.size w w' := by
  obtain ⟨c0, c1⟩ := h.cells
  have hm := h.hs
  have hmS : ms < w.heap.size := hm.lt
  have HR : Hid (Ris kS K.ss) := h.risS
  have HLE : Hid (K.ss.length ≤ 200) := by have := h.ok.few; have := h.ok.fewS; show _ ≤ _; omega
  clear h
  generalize K.ss = xs at *
  go_enter Tryz.func33, Tryz.ntmps33
  go_wp2_with (first
    | (at_range; refine wpList_range_own _ rfl _ 75 rfl 3 79 lawI Tryz.underlying75 rdV ms xs.length _ rfl hm ?_; intro w1 hrg0 hg0 hs0)
    | go_in)
  go_frame
  go_loopw [3] (fun sv wr => ∃ (left : Lit → Bool) (cnt : Nat) (got rs : List Se), wr.ranges Tryz.prog 3 rdV ms w.heap.size xs.length (entsL kS Se.v xs) left cnt ∧ Left kS xs got rs left ∧ Below w.heap.size w wr ∧ Ro RS w.heap.size wr sv got)
    (fun _ wr => wr.rangeLeft ms w.heap.size)
  case atStart => exact ⟨_, _, [], xs, hrg0, left_start keySe _ _, (Below.refl _ w).grown hg0 (Nat.le_refl _) (fun k e => by cases e), Ro.nil _ _ _⟩
  case round =>
    obtain ⟨left, cnt, got, rs, hrg, hL, hB, hro⟩ := hrel
    have hlen : got.length ≤ 200 := by have h1 := hL.1.length_eq; have h2 := HLE.out; simp at h1; omega
    obtain ⟨a0, cp0, rfl, -, -⟩ := hro.shape
    have HRO : Hid (Ro RS w.heap.size wr (.slice a0 got.length cp0) got) := hro
    have HL : Hid (Left kS xs got rs left) := hL
    have HB : Hid _ := hB
    have HRG : Hid (wr.ranges Tryz.prog 3 rdV ms w.heap.size xs.length (entsL kS Se.v xs) left cnt) := hrg
    clear hro hL hB
    go_wp2_with (first
      | (at_next; refine wpList_next_S rfl _ rfl ms w.heap.size xs.length xs got rs left cnt HR.out HL.out rfl hrg ?_ ?_)
      | go_in)
    · intro hperm
      clear hrg
      by_cases hz : got = []
      · subst hz
        have hx : xs = [] := hperm.symm.eq_nil
        subst hx
        rcases HRO.out.2 with ⟨h1, _⟩ | ⟨g, cap, cur, h1, _⟩
        · cases h1
          go_wp2_with (go_at_call 56; refine (sort_nilS none 0 _ _).mono ?_; rintro e w' ⟨rfl, rfl⟩)
          go_ret
          exact ⟨_, rfl, Ro.nil _ _ _, HB.out⟩
        · cases h1
          go_wp2_with (go_at_call 56; refine (sort_nilS _ _ _ _).mono ?_; rintro e w' ⟨rfl, rfl⟩)
          go_ret
          exact ⟨_, rfl, HRO.out, HB.out⟩
      · obtain ⟨g, cap, h1, -⟩ := HRO.out.at0 (List.length_pos_iff.2 hz)
        cases h1
        have HC := sort_anyS g cp0 xs got wr w.heap.size HR.out hperm HRO.out HB.out.size (by omega)
        have HCC : Hid (Calls _ _ _ _ _) := HC
        have HLL : Hid (got.length = xs.length) := hperm.length_eq
        clear HC
        go_wp2_with (go_at_call 56; refine HCC.out.mono ?_; rintro e w5 ⟨rfl, hro5, hB5⟩; have HR5 : Hid (Ro RS w.heap.size w5 _ xs) := hro5; have HB5 : Hid _ := hB5; clear hro5 hB5)
        go_ret
        exact ⟨_, rfl, by rw [HLL.out]; exact HR5.out, HB.out.trans HB5.out⟩
    · intro x w2 cnt2 rs2 left2 hx hL2 hrg2 hlt hg2 hs2 hen
      obtain ⟨xc, xs1, ⟨xrc, xrv⟩⟩ := x
      try dsimp only at hen
      have hB2 : Below w.heap.size w w2 := HB.out.grown hg2 HB.out.size (fun k e => by cases e; exact Nat.le_refl _)
      have hro2 : Ro RS w.heap.size w2 (.slice a0 got.length cp0) got := HRO.out.kept hg2 (HRO.out.ne_iter HRG.out)
      have HRO2 : Hid (Ro RS w.heap.size w2 (.slice a0 got.length cp0) got) := hro2
      have HB2 : Hid (Below w.heap.size w w2) := hB2
      have HRG2 : Hid (w2.ranges Tryz.prog 3 rdV ms w.heap.size xs.length (entsL kS Se.v xs) left2 cnt2) := hrg2
      have HL2 : Hid (Left kS xs (got ++ [⟨xc, xs1, ⟨xrc, xrv⟩⟩]) rs2 left2) := hL2
      have HLT : Hid _ := hlt
      clear hro2 hB2 hrg2 hL2 hlt hs2 hg2 hrg HRO HB
      go_wp2_with (at_builtin; refine wpList_append_ro RS rfl _ _ rfl w.heap.size _ got ⟨xc, xs1, ⟨xrc, xrv⟩⟩ rfl (HRO2.out.alloc _) rfl (by simp) (by omega) (by have := HB2.out.size; simp; omega) ?_; intro v' w3 hro3 hg3 hob3; obtain ⟨a3, cp3, rfl, -, -⟩ := hro3.shape; have HRO3 : Hid (Ro RS w.heap.size w3 _ (got ++ [⟨xc, xs1, ⟨xrc, xrv⟩⟩])) := hro3; have HG3 : Hid _ := hg3; clear hro3 hg3 hob3)
      go_roundw
      case rel =>
        have hrA := (HRG2.out.alloc (.cells #[.int .i64 xc,.int .i64 xs1,.int .i64 xrc,.string ⟨xrv.toArray⟩] 79)).alloc (.cells #[.int .i64 xc,.int .i64 xs1,.int .i64 xrc,.string ⟨xrv.toArray⟩] 79)
        refine ⟨left2, cnt2, got ++ [⟨xc, xs1, ⟨xrc, xrv⟩⟩], rs2, hrA.kept HG3.out ?_ ?_, HL2.out, ?_, by simpa using HRO3.out⟩
        · intro e; have := (HRO2.out.lt e.symm).1; omega
        · intro e; exact (HRO2.out.ne_iter HRG2.out).elim (fun h => by cases e.trans h) (fun h => h e.symm)
        · exact (Below.alloc' (Below.alloc' HB2.out _) _).grown HG3.out (Below.alloc' (Below.alloc' HB2.out _) _).size (fun j e => (HRO2.out.lt e).1)
      case measure =>
        have hrA := (HRG2.out.alloc (.cells #[.int .i64 xc,.int .i64 xs1,.int .i64 xrc,.string ⟨xrv.toArray⟩] 79)).alloc (.cells #[.int .i64 xc,.int .i64 xs1,.int .i64 xrc,.string ⟨xrv.toArray⟩] 79)
        have hrB := hrA.kept HG3.out (fun e => by have := (HRO2.out.lt e.symm).1; omega) (fun e => (HRO2.out.ne_iter HRG2.out).elim (fun h => by cases e.trans h) (fun h => h e.symm))
        rw [hrB.left_eq, HRG.out.left_eq]; exact HLT.out
end Go.Proofs.YtglhjgfaelfleaaGreat
