/-
  Snapshot.
-/
import Derived.Test.YtglhjgfaelfleaaGreatSn
namespace Go.Proofs.YtglhjgfaelfleaaGreat
open Go.RowKit Go.Shelf
attribute [local go_sem] Oper.semAt_some
set_option linter.unusedVariables false

/-- Between two rounds: what was written, and where the writer lies. -/
def SnI (w : World) (B : Nat) (hdr : Bs) (pre : List (Bs × Bs)) (W : World) : Prop := Wr w W (hdr ++ pre.flatMap txP) ∧ Boxed W B 112 (.pointer (some ⟨w.heap.size, 0, none⟩))
theorem Wr.turn {w0 W W' : World} {l : Bs} {row : Option Nat} {B0 : Nat} (h : Wr w0 W l) (hg : W.grownBy W' row) (hB : w0.heap.size ≤ B0) (hr : ∀ r, row = some r → B0 ≤ r ∧ ∃ o : Obj, W.heap[r]? = some o ∧ o.isCells = false) : Wr w0 W' l := by
  obtain ⟨⟨v, h1, h2, h3⟩, hb⟩ := h
  refine ⟨⟨v, h1, (hg.block _ (Array.getElem?_eq_some_iff.1 h2).1 (fun e => ?_)).trans h2, h3.kept hg ?_⟩, hb.grown hg hb.size (fun k e => by have := (hr k e).1; omega)⟩
  · obtain ⟨_, o, ho, hc⟩ := hr _ e.symm
    rw [h2] at ho; cases ho; cases hc
  · rcases h3.2 with ⟨rfl, _⟩ | ⟨g, cap, cur, rfl, _, hb', _⟩
    · exact .inl rfl
    · right
      intro e
      obtain ⟨_, o, ho, hc⟩ := hr g (by rw [← e]; rfl)
      rw [hb'] at ho; cases ho; cases hc
theorem snI_own (w : World) (B : Nat) (hdr : Bs) (B0 : Nat) (hB : w.heap.size ≤ B0) : OwnFrom B0 (SnI w B hdr) := by
  intro pre W W' row h hg hr
  refine ⟨h.1.turn hg hB hr, (hg.block _ (Array.getElem?_eq_some_iff.1 h.2).1 (fun e => ?_)).trans h.2⟩
  obtain ⟨_, o, ho, hc⟩ := hr _ e.symm
  rw [show W.heap[B]? = _ from h.2] at ho; cases ho; cases hc

/-- Between two rounds over the sessions. -/
structure SoI (w W : World) (B D : Nat) (v : Value) (ss : List Se) (l : Bs) : Prop where
  wr : Wr w W l
  bx : Boxed W B 112 (.pointer (some ⟨w.heap.size, 0, none⟩))
  ro : Ro RS 0 W v ss
  dk : W.heap[D]? = some (.deferred (some []))
theorem SoI.keep {w W W' : World} {B D : Nat} {v : Value} {ss : List Se} {l l' : Bs} (h : SoI w W B D v ss l) (hk : KeepW W W') (hw : Wr w W' l') : SoI w W' B D v ss l' :=
  ⟨hw, Boxed.keepW h.bx hk (by decide) (by decide), h.ro.keepW hk (by decide) (by decide), hk.2 D _ h.dk (by simp) (by simp)⟩
/-- The cells of a session that lies by itself. -/
def Cs4 (W : World) (g : Nat) (a b c : Int) (d : Bs) : Prop := W.cell? ⟨g, 0, none⟩ = some (.int .i64 a) ∧ W.cell? ⟨g, 1, none⟩ = some (.int .i64 b) ∧ W.cell? ⟨g, 2, none⟩ = some (.int .i64 c) ∧ W.cell? ⟨g, 3, none⟩ = some (.string ⟨d.toArray⟩)
theorem cs4_of {W : World} {g : Nat} {a b c : Int} {d : Bs} (h : W.heap[g]? = some (.cells #[.int .i64 a, .int .i64 b, .int .i64 c, .string ⟨d.toArray⟩] 79)) : Cs4 W g a b c d := by
  refine ⟨?_, ?_, ?_, ?_⟩ <;> (simp only [World.cell?, h]; rfl)
/-- What a round over the sessions writes. -/
theorem so_step {w wr : World} {B D k : Nat} {v : Value} {ss : List Se} {l0 : Bs} (h : SoI w wr B D v ss (l0 ++ (ss.take k).flatMap txS)) (hk : k < ss.length) (hs : SeOk ss[k]) (hl : (l0 ++ (ss.take k).flatMap txS).length ≤ 260000) :
    ∀ W, Below wr.heap.size wr W → W.heap[wr.heap.size]? = some (.cells #[.int .i64 ss[k].cl, .int .i64 ss[k].sq, .int .i64 ss[k].rp.code, .string ⟨ss[k].rp.val.toArray⟩] 79) →
      Hid (Calls Tryz.prog 60 #[.pointer (some ⟨w.heap.size, 0, none⟩), .int .i64 ss[k].cl] W fun r w7 => r = .returned (.tuple #[]) ∧ w7.cell? ⟨B, 0, none⟩ = some (.pointer (some ⟨w.heap.size, 0, none⟩)) ∧ Cs4 w7 wr.heap.size ss[k].cl ss[k].sq ss[k].rp.code ss[k].rp.val ∧
      Hid (Calls Tryz.prog 60 #[.pointer (some ⟨w.heap.size, 0, none⟩), .int .i64 ss[k].sq] w7 fun r w8 => r = .returned (.tuple #[]) ∧ w8.cell? ⟨B, 0, none⟩ = some (.pointer (some ⟨w.heap.size, 0, none⟩)) ∧ Cs4 w8 wr.heap.size ss[k].cl ss[k].sq ss[k].rp.code ss[k].rp.val ∧
      Hid (Calls Tryz.prog 60 #[.pointer (some ⟨w.heap.size, 0, none⟩), .int .i64 ss[k].rp.code] w8 fun r w9 => r = .returned (.tuple #[]) ∧ w9.cell? ⟨B, 0, none⟩ = some (.pointer (some ⟨w.heap.size, 0, none⟩)) ∧ Cs4 w9 wr.heap.size ss[k].cl ss[k].sq ss[k].rp.code ss[k].rp.val ∧
      Hid (Calls Tryz.prog 61 #[.pointer (some ⟨w.heap.size, 0, none⟩), .string ⟨ss[k].rp.val.toArray⟩, .int .i64 1024] w9 fun r wa => r = .returned (.tuple #[]) ∧ SoI w wa B D v ss (l0 ++ (ss.take (k + 1)).flatMap txS))))) := by
  intro W hB hx
  have n1 := numB_le ss[k].cl.toNat
  have n2 := numB_le ss[k].sq.toNat
  have n3 := numB_le ss[k].rp.code.toNat
  have hv := hs.val
  have hcode : 0 ≤ ss[k].rp.code ∧ ss[k].rp.code ≤ 4611686018427387904 := by rcases hs.code with e | e | e | e <;> omega
  have hts : (ss.take (k + 1)).flatMap txS = (ss.take k).flatMap txS ++ txS ss[k] := by rw [List.take_succ_eq_append_getElem hk, List.flatMap_append]; simp
  have keepx : ∀ {W' : World}, KeepW W W' → W'.heap[wr.heap.size]? = _ := fun hkk => hkk.2 _ _ hx (by simp) (by simp)
  refine (wkInt_any ss[k].cl (h.wr.mono hB) (by omega) (isNumB_of ⟨by have := hs.cl; omega, hs.cl.2⟩)).mono fun r w7 ⟨a1, a2, a3⟩ => ⟨a1, Boxed.cell (Boxed.keepW h.bx ((KeepW.below hB).trans a3) (by decide) (by decide)), cs4_of (keepx a3), ?_⟩
  refine (wkInt_any ss[k].sq a2 (by simp only [List.length_append] at *; omega) (isNumB_of ⟨by have := hs.sq; omega, hs.sq.2⟩)).mono fun r w8 ⟨b1, b2, b3⟩ => ⟨b1, Boxed.cell (Boxed.keepW h.bx ((KeepW.below hB).trans (a3.trans b3)) (by decide) (by decide)), cs4_of (keepx (a3.trans b3)), ?_⟩
  refine (wkInt_any ss[k].rp.code b2 (by simp only [List.length_append] at *; omega) (isNumB_of hcode)).mono fun r w9 ⟨c1, c2, c3⟩ => ⟨c1, Boxed.cell (Boxed.keepW h.bx ((KeepW.below hB).trans ((a3.trans b3).trans c3)) (by decide) (by decide)), cs4_of (keepx ((a3.trans b3).trans c3)), ?_⟩
  refine (wkText_any 1024 c2 (by simp only [List.length_append] at *; omega) (by omega) (by omega)).mono fun r wa ⟨d1, d2, d3⟩ => ⟨d1, h.keep ((KeepW.below hB).trans (((a3.trans b3).trans c3).trans d3)) ?_⟩
  rw [hts]
  simpa [txS, List.append_assoc] using d2

/-- A statement that ends plainly alone. -/
theorem wpIn_safe {c : Code} {F : Fence} {n : Nat} {P : Program} {K : Act → World → Prop} {Q' : Exit → Act → World → Prop} {a : Act} {w : World} (h : c.wpIn F n P (Exit.then K (fun _ _ _ => False)) a w) : c.wpIn F n P (Exit.then K Q') a w :=
  wpIn_mono h (fun e a w he => by cases e <;> first | exact he | exact he.elim)

set_option maxRecDepth 100000 in
set_option maxHeartbeats 4000000 in
theorem snapshot_any {w : World} {b mp ms : Nat} {K : KV} (h : St w b mp ms K) :
    Calls Tryz.prog 35 #[.pointer (some ⟨b, 0, none⟩)] w fun e w' => ∃ v, e = .returned v ∧ Ow w.heap.size w' v (snapB K) ∧ Below w.heap.size w w' := by
  refine (callsIn_wide (n := 9)).1 ?_
  have HSN : Hid ((snapB K).length ≤ 300000) := snapB_len h.ok
  have HPR : Hid (∀ p ∈ K.ps, PrOk p) := h.ok.pr
  have HSE : Hid (∀ s ∈ K.ss, SeOk s) := h.ok.se
  have hfew := h.ok.few
  have hfewS := h.ok.fewS
  have HST : Hid (∀ W, Below w.heap.size w W → St W b mp ms K) := fun W hB => h.below hB
  have CL : Hid (∀ W, Below w.heap.size w W → Calls Tryz.prog 18 #[.pointer (some ⟨b, 0, none⟩)] W fun e w' => e = .returned (.int .i64 (K.ps.length : Int)) ∧ w' = W) := fun W hB => len_any (h.below hB)
  clear h
  refine callsIn_of_wp_marks Tryz.func35 rfl trivial ?_ rfl
  simp only [Tryz.ntmps35, List.size_toArray, List.length_cons, List.length_nil, Nat.reduceAdd, Nat.reduceSub, Array.replicate_succ, Array.replicate_zero, List.push_toArray, List.append_toArray, List.nil_append, List.cons_append]
  gi_wp2_with (refine ⟨trivial, ?_⟩; gi_at_call 59; refine (callsIn_wide.2 (newW_any w)).mono ?_; rintro r w1 ⟨rfl, hW1⟩; have HW1 : Hid (Wr w w1 []) := hW1; clear hW1)
  obtain ⟨W2, hW2⟩ : ∃ W2, (w1.alloc (.cells #[.pointer (some ⟨w.heap.size, 0, none⟩)] 112)) = W2 := ⟨_, rfl⟩
  have HW2 : Hid (Wr w W2 []) := by rw [← hW2]; exact HW1.out.mono ((Below.refl _ _).alloc (Nat.le_refl _) _)
  have bx2 : Boxed W2 w1.heap.size 112 (.pointer (some ⟨w.heap.size, 0, none⟩)) := by rw [← hW2]; exact Boxed.new w1 _ _
  have hc2 := bx2.cell
  have HX2 : Hid (Boxed W2 w1.heap.size 112 (.pointer (some ⟨w.heap.size, 0, none⟩))) := bx2
  rw [hW2]
  clear bx2 hW2 HW1
  have HW2d : Hid (Wr w W2.drew []) := HW2.out.mono (Below.drew' (Below.refl _ _))
  have CI : Hid (Calls Tryz.prog 60 #[.pointer (some ⟨w.heap.size, 0, none⟩), .int .i64 (K.ps.length : Int)] W2.drew fun r w' => r = .returned (.tuple #[]) ∧ Wr w w' (numB K.ps.length) ∧ KeepW W2 w') :=
    (wkInt_any (K.ps.length : Int) HW2d.out (by simp) (isNumB_of (by omega))).mono fun r w' ⟨h1, h2, h3⟩ => ⟨h1, by simpa using h2, (KeepW.below (Below.drew' (Below.refl _ _))).trans h3⟩
  have CL2 : Hid (Calls Tryz.prog 18 #[.pointer (some ⟨b, 0, none⟩)] W2.drew fun e w' => e = .returned (.int .i64 (K.ps.length : Int)) ∧ w' = W2.drew) := CL.out _ HW2d.out.bel
  refine wpIn_safe ?_
  gi_region_with (first
    | (refine ⟨trivial, ?_⟩; gi_at_call 18; refine (callsIn_wide.2 CL2.out).mono ?_; rintro r wz ⟨rfl, hz⟩; subst wz)
    | (refine ⟨trivial, ?_⟩; gi_at_call 60; refine (callsIn_wide.2 CI.out).mono ?_; rintro r w3 ⟨rfl, hW3, hK3⟩; have HW3 : Hid (Wr w w3 (numB K.ps.length)) := hW3; have HK3 : Hid (KeepW W2 w3) := hK3; clear hW3 hK3)
    | fail)
  · have HX3 : Hid (Boxed w3 w1.heap.size 112 (.pointer (some ⟨w.heap.size, 0, none⟩))) := Boxed.keepW HX2.out HK3.out (by decide) (by decide)
    clear HW2d CI CL2 HW2 hc2 HX2 HK3
    gi_wp2_with (refine ⟨trivial, ?_⟩; gi_at_call 55; refine (callsIn_wide.2 (each_fn b _)).mono ?_; rintro r wz ⟨rfl, hz⟩; subst wz)
    obtain ⟨W4, hW4⟩ : ∃ W4, (w3.alloc (.cells #[.pointer (some ⟨b, 0, none⟩)] 27)) = W4 := ⟨_, rfl⟩
    have hB4 : Below w3.heap.size w3 W4 := by rw [← hW4]; exact (Below.refl _ _).alloc (Nat.le_refl _) _
    have hI4 : SnI w w1.heap.size (numB K.ps.length) [] W4 := ⟨by simpa using HW3.out.mono hB4, Boxed.keepW HX3.out (KeepW.below hB4) (by decide) (by decide)⟩
    have bx4 : Boxed W4 w3.heap.size 27 (.pointer (some ⟨b, 0, none⟩)) := by rw [← hW4]; exact Boxed.new w3 _ _
    have hz4 : w.heap.size ≤ W4.heap.size := hI4.1.bel.size
    rw [hW4]
    clear hW4 hB4 HX3 HW3
    refine range_yields (n := 9) (gf := 78) (lb := #[.pointer (some ⟨w3.heap.size, 0, none⟩)]) rfl (enters_of Tryz.func78 (by kernel_rfl) rfl)
      (each_yields 8 (by omega) w3.heap.size b mp ms K W4 bx4 (HST.out _ hI4.1.bel)) KeepP.trans (fun W l o o' _ hl ho => KeepP.putObj W l o o' hl ho)
      (Below.refl _ _) (fun _ => rfl) (SnI w w1.heap.size (numB K.ps.length)) (fun _ _ _ => False) (snI_own _ _ _ _ hz4) (fun _ _ _ _ _ hs _ _ => hs) (fun _ _ _ _ _ _ hs _ _ => hs) hI4 ?a1x ?assignx ?bodyx ?donex ?stopx
    case assignx =>
      intro l x W K hK
      unfold encY
      gi_wp2
      exact hK
    case bodyx =>
      rintro l' pre ⟨x1, x2⟩ W1 W hI0 hI ⟨q, hq⟩ hlt
      have hok : PrOk (x1, x2) := HPR.out _ (by rw [hq]; simp)
      have hk := hok.key.2
      have hv := hok.val
      dsimp only at hk hv
      have hlen : (numB K.ps.length ++ pre.flatMap txP).length ≤ 200000 := by
        have h1 := flat_le txP 1200 pre (fun p hp => txP_len (HPR.out p (by rw [hq]; exact List.mem_append_left _ hp)))
        have h2 := numB_le K.ps.length
        rw [List.length_append]; omega
      obtain ⟨hW, hX⟩ := hI
      have hcx := Boxed.cell hX
      have CT1 : Hid (Calls Tryz.prog 61 #[.pointer (some ⟨w.heap.size, 0, none⟩), .string ⟨x1.toArray⟩, .int .i64 64] W fun r w5 => r = .returned (.tuple #[]) ∧ w5.cell? ⟨w1.heap.size, 0, none⟩ = some (.pointer (some ⟨w.heap.size, 0, none⟩)) ∧
          Hid (Calls Tryz.prog 61 #[.pointer (some ⟨w.heap.size, 0, none⟩), .string ⟨x2.toArray⟩, .int .i64 1024] w5 fun r w6 => r = .returned (.tuple #[]) ∧ KeepW W w6 ∧ SnI w w1.heap.size (numB K.ps.length) (pre ++ [(x1, x2)]) w6)) :=
        (wkText_any 64 hW (by omega) (by omega) (by omega)).mono fun r w5 ⟨h1, h2, h3⟩ => ⟨h1, Boxed.cell (Boxed.keepW hX h3 (by decide) (by decide)), (wkText_any 1024 h2 (by have := numB_le x1.length; simp only [List.length_append] at *; omega) (by omega) (by omega)).mono fun r w6 ⟨k1, k2, k3⟩ =>
          ⟨k1, h3.trans k3, by simpa [txP, List.append_assoc] using k2, Boxed.keepW hX (h3.trans k3) (by decide) (by decide)⟩⟩
      clear hW hX hI0 hq hlt hok hlen bx4 hI4
      gi_wp2_with (first
        | (refine ⟨trivial, ?_⟩; gi_at_call 61; refine (CallsIn.inRound l' (callsIn_wide.2 CT1.out)).mono ?_; rintro r w5 ⟨rfl, hc5, CT2⟩; clear CT1)
        | (refine ⟨trivial, ?_⟩; gi_at_call 61; refine (CallsIn.inRound l' (callsIn_wide.2 CT2.out)).mono ?_; rintro r w6 ⟨rfl, hK6, hI6⟩; clear CT2; have HK6 : Hid (KeepW W w6) := hK6; have HI6 : Hid (SnI w w1.heap.size (numB K.ps.length) (pre ++ [(x1, x2)]) w6) := hI6; clear hK6 hI6))
      exact ⟨HK6.out.from _, HK6.out.p, HI6.out⟩
    case donex =>
      rintro D xs W hD hS hI hK
      subst hS
      obtain ⟨hW, hX⟩ := hI
      have hcx := Boxed.cell hX
      have hlen : (numB K.ps.length ++ K.ps.flatMap txP).length ≤ 200000 := by
        have h1 := flat_le txP 1200 K.ps (fun p hp => txP_len (HPR.out p hp))
        have h2 := numB_le K.ps.length
        rw [List.length_append]; omega
      obtain ⟨L0, hL0⟩ : ∃ L0, numB K.ps.length ++ K.ps.flatMap txP = L0 := ⟨_, rfl⟩
      rw [hL0] at hW hlen
      have CS : Hid (Calls Tryz.prog 33 #[.pointer (some ⟨b, 0, none⟩)] W fun e w5 => ∃ a c, e = .returned (.slice a K.ss.length c) ∧ w5.cell? ⟨w1.heap.size, 0, none⟩ = some (.pointer (some ⟨w.heap.size, 0, none⟩)) ∧
          Hid (Calls Tryz.prog 60 #[.pointer (some ⟨w.heap.size, 0, none⟩), .int .i64 (K.ss.length : Int)] w5 fun r w6 => r = .returned (.tuple #[]) ∧ SoI w w6 w1.heap.size D (.slice a K.ss.length c) K.ss (L0 ++ numB K.ss.length))) :=
        (sessions_any (HST.out _ hW.bel)).mono fun e w5 ⟨v, h1, h2, h3⟩ => by
          obtain ⟨a, c, rfl, -, -⟩ := h2.shape
          refine ⟨a, c, h1, Boxed.cell (Boxed.keepW hX (KeepW.below h3) (by decide) (by decide)), (wkInt_any (K.ss.length : Int) (hW.mono h3) (by omega) (isNumB_of (by omega))).mono fun r w6 ⟨k1, k2, k3⟩ => ⟨k1, ?_⟩⟩
          exact ⟨by simpa using k2, Boxed.keepW hX ((KeepW.below h3).trans k3) (by decide) (by decide), (h2.keepW k3 (by decide) (by decide)).base (Nat.zero_le _), k3.2 D _ (below_heap h3 hK) (by simp) (by simp)⟩
      have HHL : Hid (w.heap.size ≤ D) := Nat.le_trans hz4 hD
      clear hW hX hK bx4 hI4
      gi_wp2_with (first
        | (refine ⟨trivial, ?_⟩; gi_at_call 33; refine (callsIn_wide.2 CS.out).mono ?_; rintro r w5 ⟨sa, sc, rfl, hc5, CI5⟩; clear CS)
        | (refine ⟨trivial, ?_⟩; gi_at_call 60; refine (callsIn_wide.2 CI5.out).mono ?_; rintro r w6 ⟨rfl, hI6⟩; clear CI5; have HI6 : Hid (SoI w w6 w1.heap.size D (.slice sa K.ss.length sc) K.ss (L0 ++ numB K.ss.length)) := hI6; clear hI6))
      gi_loopw [34] (fun kv wr => ∃ k : Nat, kv = .int .i64 (k : Int) ∧ k ≤ K.ss.length ∧ SoI w wr w1.heap.size D (.slice sa K.ss.length sc) K.ss (L0 ++ numB K.ss.length ++ (K.ss.take k).flatMap txS)) (fun kv _ => K.ss.length - (intOf kv).toNat)
      case atStart => exact ⟨0, rfl, Nat.zero_le _, by simpa using HI6.out⟩
      case round =>
        obtain ⟨k, rfl, hk, hIk⟩ := hrel
        have HIK : Hid (SoI w wr w1.heap.size D (.slice sa K.ss.length sc) K.ss (L0 ++ numB K.ss.length ++ (K.ss.take k).flatMap txS)) := hIk
        have hlk : (L0 ++ numB K.ss.length ++ (K.ss.take k).flatMap txS).length ≤ 260000 := by
          have h1 := flat_le txS 1200 (K.ss.take k) (fun s hs => txS_len (HSE.out s (List.mem_of_mem_take hs)))
          have h2 := numB_le K.ss.length
          have h3 : (K.ss.take k).length ≤ 32 := by simp; omega
          rw [List.length_append, List.length_append]; omega
        clear hIk HI6
        by_cases hkl : k < K.ss.length
        · have hkl' : (k : Int) < (K.ss.length : Int) := by omega
          have hsk : SeOk K.ss[k] := HSE.out _ (List.getElem_mem hkl)
          have hcx := Boxed.cell HIK.out.bx
          have HST2 := so_step HIK.out hkl hsk hlk
          obtain ⟨g, c, hv, -, hgl, -, hcell⟩ := HIK.out.ro.at0 (by omega)
          cases hv
          have d0 := hcell k 0 hkl (by decide)
          have d1 := hcell k 1 hkl (by decide)
          have d2 := hcell k 2 hkl (by decide)
          have d3 := hcell k 3 hkl (by decide)
          clear hcell hlk hsk
          generalize K.ss[k] = x at *
          obtain ⟨xc, xq, xrc, xrv⟩ := x
          have d0' : wr.cell? ⟨g, k * 4, none⟩ = some (.int .i64 xc) := d0
          have d1' : wr.cell? ⟨g, k * 4 + 1, none⟩ = some (.int .i64 xq) := d1
          have d2' : wr.cell? ⟨g, k * 4 + 2, none⟩ = some (.int .i64 xrc) := d2
          have d3' : wr.cell? ⟨g, k * 4 + 3, none⟩ = some (.string ⟨xrv.toArray⟩) := d3
          have HST3 := HST2 (wr.alloc (.cells #[.int .i64 xc, .int .i64 xq, .int .i64 xrc, .string ⟨xrv.toArray⟩] 79)) ((Below.refl _ wr).alloc (Nat.le_refl _) _) (heap_alloc_new wr _)
          dsimp only at HST3
          clear d0 d1 d2 d3 HST2
          have lb : w1.heap.size < wr.heap.size := Boxed.lt HIK.out.bx
          gi_wp2_with (first
            | (refine ⟨trivial, ?_⟩; gi_at_call 60; refine (callsIn_wide.2 HST3.out).mono ?_; rintro r w7 ⟨rfl, hc7, ⟨e0, e1, e2, e3⟩, HST4⟩; clear HST3)
            | (refine ⟨trivial, ?_⟩; gi_at_call 60; refine (callsIn_wide.2 HST4.out).mono ?_; rintro r w8 ⟨rfl, hc8, ⟨i0, i1, i2, i3⟩, HST5⟩; clear HST4)
            | (refine ⟨trivial, ?_⟩; gi_at_call 60; refine (callsIn_wide.2 HST5.out).mono ?_; rintro r w9 ⟨rfl, hc9, ⟨j0, j1, j2, j3⟩, HST6⟩; clear HST5)
            | (refine ⟨trivial, ?_⟩; gi_at_call 61; refine (callsIn_wide.2 HST6.out).mono ?_; rintro r wa ⟨rfl, hIa⟩; clear HST6; have HIA : Hid (SoI w wa w1.heap.size D (.slice (some ⟨g, 0, none⟩) K.ss.length sc) K.ss (L0 ++ numB K.ss.length ++ (K.ss.take (k + 1)).flatMap txS)) := hIa; clear hIa))
          go_roundw
          case rel => exact ⟨k + 1, by go_num, by omega, HIA.out⟩
          case measure => simp [intOf]; omega
        · have hkl' : decide ((k : Int) < (K.ss.length : Int)) = false := by simp; omega
          obtain rfl : k = K.ss.length := by omega
          have hcx := Boxed.cell HIK.out.bx
          have HTX : Hid (L0 ++ numB K.ss.length ++ (K.ss.take K.ss.length).flatMap txS = snapB K) := by rw [List.take_length, ← hL0]; simp [snapB, List.append_assoc, Hid]
          have CD : Hid (Calls Tryz.prog 62 #[.pointer (some ⟨w.heap.size, 0, none⟩)] wr fun r w' => ∃ a n c, r = .returned (.tuple #[.slice a n c, .int .i64 0]) ∧ Ow w.heap.size w' (.slice a n c) (snapB K) ∧ Below w.heap.size w w' ∧ w'.heap[D]? = some (.deferred (some []))) :=
            (wkDone_any HIK.out.wr (by omega)).mono fun r w' ⟨a, c, h1, h2, h3⟩ => ⟨a, _, c, h1, by rw [← HTX.out]; exact h2, HIK.out.wr.bel.trans (h3.mono HIK.out.wr.bel.size), below_heap h3 HIK.out.dk⟩
          clear hlk hL0 hlen
          gi_wp2_with (refine ⟨trivial, ?_⟩; gi_at_call 62; refine (callsIn_wide.2 CD.out).mono ?_; rintro r wd ⟨da, dn, dc, rfl, hOd, hBd, hKd⟩; have HOD : Hid (Ow w.heap.size wd (.slice da dn dc) (snapB K)) := hOd; have HBD : Hid (Below w.heap.size w wd) := hBd; have HKD : Hid (wd.heap[D]? = some (.deferred (some []))) := hKd; clear hOd hBd hKd CD)
          refine ⟨by simp, .inl ⟨_, _, rfl, run_takeDeferred HKD.out, ?_⟩⟩
          refine ⟨_, results_tmp rfl _ _ _, ?_⟩
          refine ⟨.slice da dn dc, rfl, ownsRow_putObj HOD.out (.deferred none) HKD.out rfl, ?_⟩
          exact HBD.out.grown (grownBy_putObj' wd D _) HBD.out.size (fun k e => by cases e; exact HHL.out)
    case stopx =>
      rintro D c pre W _ _ h _
      exact h.elim
  · have HX3 : Hid (Boxed w3 w1.heap.size 112 (.pointer (some ⟨w.heap.size, 0, none⟩))) := Boxed.keepW HX2.out HK3.out (by decide) (by decide)
    clear HW2d CI CL2 HW2 hc2 HX2 HK3
    gi_wp2_with (refine ⟨trivial, ?_⟩; gi_at_call 55; refine (callsIn_wide.2 (each_fn b _)).mono ?_; rintro r wz ⟨rfl, hz⟩; subst wz)
    obtain ⟨W4, hW4⟩ : ∃ W4, (w3.alloc (.cells #[.pointer (some ⟨b, 0, none⟩)] 27)) = W4 := ⟨_, rfl⟩
    have hB4 : Below w3.heap.size w3 W4 := by rw [← hW4]; exact (Below.refl _ _).alloc (Nat.le_refl _) _
    have hI4 : SnI w w1.heap.size (numB K.ps.length) [] W4 := ⟨by simpa using HW3.out.mono hB4, Boxed.keepW HX3.out (KeepW.below hB4) (by decide) (by decide)⟩
    have bx4 : Boxed W4 w3.heap.size 27 (.pointer (some ⟨b, 0, none⟩)) := by rw [← hW4]; exact Boxed.new w3 _ _
    have hz4 : w.heap.size ≤ W4.heap.size := hI4.1.bel.size
    rw [hW4]
    clear hW4 hB4 HX3 HW3
    refine range_yields (n := 9) (gf := 78) (lb := #[.pointer (some ⟨w3.heap.size, 0, none⟩)]) rfl (enters_of Tryz.func78 (by kernel_rfl) rfl)
      (each_yields 8 (by omega) w3.heap.size b mp ms K W4 bx4 (HST.out _ hI4.1.bel)) KeepP.trans (fun W l o o' _ hl ho => KeepP.putObj W l o o' hl ho)
      (Below.refl _ _) (fun _ => rfl) (SnI w w1.heap.size (numB K.ps.length)) (fun _ _ _ => False) (snI_own _ _ _ _ hz4) (fun _ _ _ _ _ hs _ _ => hs) (fun _ _ _ _ _ _ hs _ _ => hs) hI4 ?a1y ?assigny ?bodyy ?doney ?stopy
    case assigny =>
      intro l x W K hK
      unfold encY
      gi_wp2
      exact hK
    case bodyy =>
      rintro l' pre ⟨x1, x2⟩ W1 W hI0 hI ⟨q, hq⟩ hlt
      have hok : PrOk (x1, x2) := HPR.out _ (by rw [hq]; simp)
      have hk := hok.key.2
      have hv := hok.val
      dsimp only at hk hv
      have hlen : (numB K.ps.length ++ pre.flatMap txP).length ≤ 200000 := by
        have h1 := flat_le txP 1200 pre (fun p hp => txP_len (HPR.out p (by rw [hq]; exact List.mem_append_left _ hp)))
        have h2 := numB_le K.ps.length
        rw [List.length_append]; omega
      obtain ⟨hW, hX⟩ := hI
      have hcx := Boxed.cell hX
      have CT1 : Hid (Calls Tryz.prog 61 #[.pointer (some ⟨w.heap.size, 0, none⟩), .string ⟨x1.toArray⟩, .int .i64 64] W fun r w5 => r = .returned (.tuple #[]) ∧ w5.cell? ⟨w1.heap.size, 0, none⟩ = some (.pointer (some ⟨w.heap.size, 0, none⟩)) ∧
          Hid (Calls Tryz.prog 61 #[.pointer (some ⟨w.heap.size, 0, none⟩), .string ⟨x2.toArray⟩, .int .i64 1024] w5 fun r w6 => r = .returned (.tuple #[]) ∧ KeepW W w6 ∧ SnI w w1.heap.size (numB K.ps.length) (pre ++ [(x1, x2)]) w6)) :=
        (wkText_any 64 hW (by omega) (by omega) (by omega)).mono fun r w5 ⟨h1, h2, h3⟩ => ⟨h1, Boxed.cell (Boxed.keepW hX h3 (by decide) (by decide)), (wkText_any 1024 h2 (by have := numB_le x1.length; simp only [List.length_append] at *; omega) (by omega) (by omega)).mono fun r w6 ⟨k1, k2, k3⟩ =>
          ⟨k1, h3.trans k3, by simpa [txP, List.append_assoc] using k2, Boxed.keepW hX (h3.trans k3) (by decide) (by decide)⟩⟩
      clear hW hX hI0 hq hlt hok hlen bx4 hI4
      gi_wp2_with (first
        | (refine ⟨trivial, ?_⟩; gi_at_call 61; refine (CallsIn.inRound l' (callsIn_wide.2 CT1.out)).mono ?_; rintro r w5 ⟨rfl, hc5, CT2⟩; clear CT1)
        | (refine ⟨trivial, ?_⟩; gi_at_call 61; refine (CallsIn.inRound l' (callsIn_wide.2 CT2.out)).mono ?_; rintro r w6 ⟨rfl, hK6, hI6⟩; clear CT2; have HK6 : Hid (KeepW W w6) := hK6; have HI6 : Hid (SnI w w1.heap.size (numB K.ps.length) (pre ++ [(x1, x2)]) w6) := hI6; clear hK6 hI6))
      exact ⟨HK6.out.from _, HK6.out.p, HI6.out⟩
    case doney =>
      rintro D xs W hD hS hI hK
      subst hS
      obtain ⟨hW, hX⟩ := hI
      have hcx := Boxed.cell hX
      have hlen : (numB K.ps.length ++ K.ps.flatMap txP).length ≤ 200000 := by
        have h1 := flat_le txP 1200 K.ps (fun p hp => txP_len (HPR.out p hp))
        have h2 := numB_le K.ps.length
        rw [List.length_append]; omega
      obtain ⟨L0, hL0⟩ : ∃ L0, numB K.ps.length ++ K.ps.flatMap txP = L0 := ⟨_, rfl⟩
      rw [hL0] at hW hlen
      have CS : Hid (Calls Tryz.prog 33 #[.pointer (some ⟨b, 0, none⟩)] W fun e w5 => ∃ a c, e = .returned (.slice a K.ss.length c) ∧ w5.cell? ⟨w1.heap.size, 0, none⟩ = some (.pointer (some ⟨w.heap.size, 0, none⟩)) ∧
          Hid (Calls Tryz.prog 60 #[.pointer (some ⟨w.heap.size, 0, none⟩), .int .i64 (K.ss.length : Int)] w5 fun r w6 => r = .returned (.tuple #[]) ∧ SoI w w6 w1.heap.size D (.slice a K.ss.length c) K.ss (L0 ++ numB K.ss.length))) :=
        (sessions_any (HST.out _ hW.bel)).mono fun e w5 ⟨v, h1, h2, h3⟩ => by
          obtain ⟨a, c, rfl, -, -⟩ := h2.shape
          refine ⟨a, c, h1, Boxed.cell (Boxed.keepW hX (KeepW.below h3) (by decide) (by decide)), (wkInt_any (K.ss.length : Int) (hW.mono h3) (by omega) (isNumB_of (by omega))).mono fun r w6 ⟨k1, k2, k3⟩ => ⟨k1, ?_⟩⟩
          exact ⟨by simpa using k2, Boxed.keepW hX ((KeepW.below h3).trans k3) (by decide) (by decide), (h2.keepW k3 (by decide) (by decide)).base (Nat.zero_le _), k3.2 D _ (below_heap h3 hK) (by simp) (by simp)⟩
      have HHL : Hid (w.heap.size ≤ D) := Nat.le_trans hz4 hD
      clear hW hX hK bx4 hI4
      gi_wp2_with (first
        | (refine ⟨trivial, ?_⟩; gi_at_call 33; refine (callsIn_wide.2 CS.out).mono ?_; rintro r w5 ⟨sa, sc, rfl, hc5, CI5⟩; clear CS)
        | (refine ⟨trivial, ?_⟩; gi_at_call 60; refine (callsIn_wide.2 CI5.out).mono ?_; rintro r w6 ⟨rfl, hI6⟩; clear CI5; have HI6 : Hid (SoI w w6 w1.heap.size D (.slice sa K.ss.length sc) K.ss (L0 ++ numB K.ss.length)) := hI6; clear hI6))
      gi_loopw [34] (fun kv wr => ∃ k : Nat, kv = .int .i64 (k : Int) ∧ k ≤ K.ss.length ∧ SoI w wr w1.heap.size D (.slice sa K.ss.length sc) K.ss (L0 ++ numB K.ss.length ++ (K.ss.take k).flatMap txS)) (fun kv _ => K.ss.length - (intOf kv).toNat)
      case atStart => exact ⟨0, rfl, Nat.zero_le _, by simpa using HI6.out⟩
      case round =>
        obtain ⟨k, rfl, hk, hIk⟩ := hrel
        have HIK : Hid (SoI w wr w1.heap.size D (.slice sa K.ss.length sc) K.ss (L0 ++ numB K.ss.length ++ (K.ss.take k).flatMap txS)) := hIk
        have hlk : (L0 ++ numB K.ss.length ++ (K.ss.take k).flatMap txS).length ≤ 260000 := by
          have h1 := flat_le txS 1200 (K.ss.take k) (fun s hs => txS_len (HSE.out s (List.mem_of_mem_take hs)))
          have h2 := numB_le K.ss.length
          have h3 : (K.ss.take k).length ≤ 32 := by simp; omega
          rw [List.length_append, List.length_append]; omega
        clear hIk HI6
        by_cases hkl : k < K.ss.length
        · have hkl' : (k : Int) < (K.ss.length : Int) := by omega
          have hsk : SeOk K.ss[k] := HSE.out _ (List.getElem_mem hkl)
          have hcx := Boxed.cell HIK.out.bx
          have HST2 := so_step HIK.out hkl hsk hlk
          obtain ⟨g, c, hv, -, hgl, -, hcell⟩ := HIK.out.ro.at0 (by omega)
          cases hv
          have d0 := hcell k 0 hkl (by decide)
          have d1 := hcell k 1 hkl (by decide)
          have d2 := hcell k 2 hkl (by decide)
          have d3 := hcell k 3 hkl (by decide)
          clear hcell hlk hsk
          generalize K.ss[k] = x at *
          obtain ⟨xc, xq, xrc, xrv⟩ := x
          have d0' : wr.cell? ⟨g, k * 4, none⟩ = some (.int .i64 xc) := d0
          have d1' : wr.cell? ⟨g, k * 4 + 1, none⟩ = some (.int .i64 xq) := d1
          have d2' : wr.cell? ⟨g, k * 4 + 2, none⟩ = some (.int .i64 xrc) := d2
          have d3' : wr.cell? ⟨g, k * 4 + 3, none⟩ = some (.string ⟨xrv.toArray⟩) := d3
          have HST3 := HST2 (wr.alloc (.cells #[.int .i64 xc, .int .i64 xq, .int .i64 xrc, .string ⟨xrv.toArray⟩] 79)) ((Below.refl _ wr).alloc (Nat.le_refl _) _) (heap_alloc_new wr _)
          dsimp only at HST3
          clear d0 d1 d2 d3 HST2
          have lb : w1.heap.size < wr.heap.size := Boxed.lt HIK.out.bx
          gi_wp2_with (first
            | (refine ⟨trivial, ?_⟩; gi_at_call 60; refine (callsIn_wide.2 HST3.out).mono ?_; rintro r w7 ⟨rfl, hc7, ⟨e0, e1, e2, e3⟩, HST4⟩; clear HST3)
            | (refine ⟨trivial, ?_⟩; gi_at_call 60; refine (callsIn_wide.2 HST4.out).mono ?_; rintro r w8 ⟨rfl, hc8, ⟨i0, i1, i2, i3⟩, HST5⟩; clear HST4)
            | (refine ⟨trivial, ?_⟩; gi_at_call 60; refine (callsIn_wide.2 HST5.out).mono ?_; rintro r w9 ⟨rfl, hc9, ⟨j0, j1, j2, j3⟩, HST6⟩; clear HST5)
            | (refine ⟨trivial, ?_⟩; gi_at_call 61; refine (callsIn_wide.2 HST6.out).mono ?_; rintro r wa ⟨rfl, hIa⟩; clear HST6; have HIA : Hid (SoI w wa w1.heap.size D (.slice (some ⟨g, 0, none⟩) K.ss.length sc) K.ss (L0 ++ numB K.ss.length ++ (K.ss.take (k + 1)).flatMap txS)) := hIa; clear hIa))
          go_roundw
          case rel => exact ⟨k + 1, by go_num, by omega, HIA.out⟩
          case measure => simp [intOf]; omega
        · have hkl' : decide ((k : Int) < (K.ss.length : Int)) = false := by simp; omega
          obtain rfl : k = K.ss.length := by omega
          have hcx := Boxed.cell HIK.out.bx
          have HTX : Hid (L0 ++ numB K.ss.length ++ (K.ss.take K.ss.length).flatMap txS = snapB K) := by rw [List.take_length, ← hL0]; simp [snapB, List.append_assoc, Hid]
          have CD : Hid (Calls Tryz.prog 62 #[.pointer (some ⟨w.heap.size, 0, none⟩)] wr fun r w' => ∃ a n c, r = .returned (.tuple #[.slice a n c, .int .i64 0]) ∧ Ow w.heap.size w' (.slice a n c) (snapB K) ∧ Below w.heap.size w w' ∧ w'.heap[D]? = some (.deferred (some []))) :=
            (wkDone_any HIK.out.wr (by omega)).mono fun r w' ⟨a, c, h1, h2, h3⟩ => ⟨a, _, c, h1, by rw [← HTX.out]; exact h2, HIK.out.wr.bel.trans (h3.mono HIK.out.wr.bel.size), below_heap h3 HIK.out.dk⟩
          clear hlk hL0 hlen
          gi_wp2_with (refine ⟨trivial, ?_⟩; gi_at_call 62; refine (callsIn_wide.2 CD.out).mono ?_; rintro r wd ⟨da, dn, dc, rfl, hOd, hBd, hKd⟩; have HOD : Hid (Ow w.heap.size wd (.slice da dn dc) (snapB K)) := hOd; have HBD : Hid (Below w.heap.size w wd) := hBd; have HKD : Hid (wd.heap[D]? = some (.deferred (some []))) := hKd; clear hOd hBd hKd CD)
          refine ⟨by simp, .inl ⟨_, _, rfl, run_takeDeferred HKD.out, ?_⟩⟩
          refine ⟨_, results_tmp rfl _ _ _, ?_⟩
          refine ⟨.slice da dn dc, rfl, ownsRow_putObj HOD.out (.deferred none) HKD.out rfl, ?_⟩
          exact HBD.out.grown (grownBy_putObj' wd D _) HBD.out.size (fun k e => by cases e; exact HHL.out)
    case stopy =>
      rintro D c pre W _ _ h _
      exact h.elim
end Go.Proofs.YtglhjgfaelfleaaGreat
