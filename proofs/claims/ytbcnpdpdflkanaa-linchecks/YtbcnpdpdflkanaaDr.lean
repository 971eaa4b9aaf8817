/-
  The document's search.
-/
import Derived.Test.YtbcnpdpdflkanaaDk
namespace Go.Proofs.Ytbcnpdpdflkanaa
open Go.RowKit

/-- What the document's search answers. -/
def FP (h : List Lo) (ns : List Nat) (c : Ds) (m : Nat) (w : World) (d : Nat) (th : Bool) (v : Bs) (n : Nat) (e : Ending) (w' : World) : Prop :=
  ∃ (r : Option (List Nat)) (lv : Value) (n' : Nat) (D' : DataW Unit),
    IsL (L h ns) d.testBit th v r ∧ e = .returned (.tuple #[lv, .bool r.isSome]) ∧ IOw w.heap.size w' lv (gone ns r) ∧ w'.ownsMap Try.prog 64 (plainElem Try.prog 3) c.M n' D' ∧ Fa h ns D' ∧ n' ≤ n + cst m ∧ Out (fun i => i = c.M) w w'
/-- Its contract with m left. -/
def FC (h : List Lo) (ns : List Nat) (c : Ds) (m : Nat) : Prop := ∀ (w : World) (d : Nat) (th : Bool) (v : Bs) (n : Nat) (D : DataW Unit),
  Sq c h ns w → w.ownsMap Try.prog 64 (plainElem Try.prog 3) c.M n D → Fa h ns D → d < 2 ^ ns.length → v.length ≤ maxLen → left ns.length d.testBit ≤ m → n + cst m ≤ 140737488355328 →
  Calls Try.prog 34 #[ptr c.s, atV d th v] w (FP h ns c m w d th v n)

theorem path_len {ops : List Lo} : ∀ (p : List Nat) (D : Nat → Bool) (th : Bool) (v : Bs), Path ops D th v p → p.length ≤ left ops.length D
  | [], _, _, _, _ => Nat.zero_le _
  | i :: q, D, th, v, hp => by
    have h1 := path_len q _ _ _ hp.2.2
    have h2 := left_upd (nextB_not hp.2.1) ops.length hp.1
    simp only [List.length_cons]
    omega
/-- Those up to k that are answered are done. -/
def fin1 (h : List Lo) (ns : List Nat) (d k : Nat) : Bool := (List.range k).all fun j => decide ((nops h ns j).back = 0) || d.testBit j
theorem fin1_succ (h : List Lo) (ns : List Nat) (d k : Nat) : fin1 h ns d (k + 1) = (fin1 h ns d k && (decide ((nops h ns k).back = 0) || d.testBit k)) := by
  unfold fin1
  rw [List.range_succ, List.all_append]
  simp
theorem fin1_fine (h : List Lo) (ns : List Nat) (d : Nat) : fin1 h ns d ns.length = fineB (L h ns) d.testBit := by
  unfold fin1 fineB
  rw [L_len, Bool.eq_iff_iff, List.all_eq_true, List.all_eq_true]
  constructor
  · intro hh k hk; rw [L_at h ns (List.mem_range.1 hk)]; exact hh k hk
  · intro hh k hk; have := hh k hk; rw [L_at h ns (List.mem_range.1 hk)] at this; exact this

set_option maxRecDepth 100000 in
set_option maxHeartbeats 8000000 in
theorem from_step (h : List Lo) (ns : List Nat) (hp : ns.length ≤ 12) (_hns : ∀ i ∈ ns, i < 1000) (hok : ∀ j, (nops h ns j).val.length ≤ maxLen) (c : Ds) (m : Nat)
    (HR : Hid (m = 0 ∨ FC h ns c (m - 1))) : FC h ns c m := by
  intro w d th v n D hS hM hF hd hv hm hn
  have hd4 : d < 4096 := Nat.lt_of_lt_of_le hd (pow_le hp)
  unfold ptr atV str
  have HB0 : Hid (Below w.heap.size w (w.alloc (.cells #[.int .i64 (d : Int), .bool th, .string ⟨v.toArray⟩] 64))) := (Below.refl _ w).alloc (Nat.le_refl _) _
  have HS1 := hS.below HB0.out
  have HM1 := mapOut (X := fun _ => False) hM (Out.of_below HB0.out) id
  have HX1 : Hid ((w.alloc (.cells #[.int .i64 (d : Int), .bool th, .string ⟨v.toArray⟩] 64)).heap[w.heap.size]? = some (.cells #[.int .i64 (d : Int), .bool th, .string ⟨v.toArray⟩] 64 (0, 0))) := heap_alloc_new _ _
  generalize hW : w.alloc (.cells #[.int .i64 (d : Int), .bool th, .string ⟨v.toArray⟩] 64) = W at *
  have HW : Hid (w.alloc (.cells #[.int .i64 (d : Int), .bool th, .string ⟨v.toArray⟩] 64) = W) := hW
  have hzW : w.heap.size < W.heap.size := by rw [← hW]; simp
  clear hW
  obtain ⟨⟨x0, x1, x2⟩, -⟩ := cells3 HX1.out
  have HS : Hid (Sq c h ns W) := HS1
  have HM : Hid (W.ownsMap Try.prog 64 (plainElem Try.prog 3) c.M n D) := HM1
  have HFA : Hid (Fa h ns D) := hF
  have hC0 := HS1.c0
  have hC1 := HS1.c1
  have hC2 := HS1.c2
  obtain ⟨cc, hat, hlook⟩ := map_look HM1 hd4 th hv
  have HLK : Hid (cc > 0 → IsL (L h ns) d.testBit th v none) := fun hc => by
    rcases hF.no d th v hd4 hv with e | e
    · rw [hat] at e
      have : cc = 0 := by simpa using e
      omega
    · exact e
  haveI hneW : Nonempty (Cw W) := ⟨⟨W, Below.refl _ _⟩⟩
  have HBZ : Hid (∀ z : Cw W, Below w.heap.size w z.w) := fun z => HB0.out.trans (z.b.mono (by omega))
  have HMZ : Hid (∀ z : Cw W, z.w.ownsMap Try.prog 64 (plainElem Try.prog 3) c.M n D) := fun z => mapOut (X := fun _ => False) HM.out (Out.of_below z.b) id
  have f0 := fun z : Cw W => z.cell x0
  have f1 := fun z : Cw W => z.cell x1
  have f2 := fun z : Cw W => z.cell x2
  have f3 := fun z : Cw W => z.cell hC1
  have f4 := fun z : Cw W => z.cell hC2
  have HMS : Hid (c.M < w.heap.size ∧ c.s < w.heap.size) := ⟨mapLt hM, hS.sl⟩
  clear HS1 HM1 hat x0 x1 x2 hS hM hF
  go_enter Try.func34, Try.ntmps34
  go_wp2
  rw [HW.out]
  by_cases hcc : 0 < cc
  · have HN0 : Hid (IsL (L h ns) d.testBit th v none) := HLK.out hcc
    refine wp_region_cw (W := W) (by kernel_rfl) (by kernel_rfl) (Below.refl _ _) ?_
    repeat (go_big_quiet_step (fail))
    refine wpQuiet_nil ?_
    rintro _ ⟨z5, rfl⟩
    go_wp2
    go_ret2
    exact ⟨none, _, n, D, HN0.out, rfl, World.ownsRow_nil _ _ _ _, HMZ.out z5, HFA.out, by omega, Out.of_below (HBZ.out z5)⟩
  · refine wp_region_cw (W := W) (by kernel_rfl) (by kernel_rfl) (Below.refl _ _) ?_
    repeat (go_big_quiet_step (fail))
    refine wpQuiet_nil ?_
    rintro _ ⟨z5, rfl⟩
    clear hlook hcc HLK
    go_wp2
    go_loopw [7, 6] (fun kv bv wr => ∃ k : Nat, kv = .int .i64 k ∧ k ≤ ns.length ∧ bv = .bool (fin1 h ns d k) ∧ Below W.heap.size W wr) (fun kv _ _ => ns.length - (intOf kv).toNat)
    case atStart => exact ⟨0, rfl, by omega, rfl, z5.b⟩
    case round =>
      obtain ⟨k, rfl, hk, rfl, hBr⟩ := hrel
      have hD1 := (hBr.cell (p := ⟨c.s, 1, none⟩) HS.out.sl).trans hC1
      by_cases hlt : k < ns.length
      · obtain ⟨g, b, off, hoa, hha, ck, hnk, ok, -, -⟩ := HS.out.at hlt
        obtain ⟨-, -, -, -, -, -, -, k7, -, -⟩ := ok
        have hHI : ∃ p : Nat, (∀ w, Calls Try.prog 43 #[.int .i64 (k : Int)] w fun e w' => e = .returned (.int .i64 (p : Int)) ∧ Below w.heap.size w w') ∧ (p : Int) ≠ 0 ∧ p ≤ 4096 ∧ Int.tmod (wrap64 ((d : Int) / (p : Int))) 2 = if d.testBit k then 1 else 0 :=
          ⟨2 ^ k, fun w => (bit_any k (by omega) w).mono (fun e w' h => ⟨h.1, by rw [h.2]; exact Below.refl _ _⟩), by have := Nat.two_pow_pos k; omega, pow_le (by omega), div_bit hd4 k⟩
        obtain ⟨p, HBI, hp0, hp1, hdv⟩ := hHI
        have hsu := fin1_succ h ns d k
        have hE0 := hC0
        have hE1 := hC1
        rw [hha] at hE0
        rw [hoa] at hE1 hD1
        generalize (nops h ns k).back = yb at *
        generalize ns.getD k 0 = nk at *
        have e1 := fun z : Cw W => z.cell hE0
        have e2 := fun z : Cw W => z.cell hE1
        have e3 := fun z : Cw W => z.cell ck
        have e5 := fun z : Cw W => z.cell k7
        clear hha hoa hC0 hC1 ck k7 hE0 hE1 f3
        cases hf1 : fin1 h ns d k with
        | false =>
          have HSU : Hid (fin1 h ns d (k + 1) = false) := by show _ = _; rw [hsu, hf1]; rfl
          clear hsu hf1
          go_wp2
          refine wp_region_cw (W := W) (by kernel_rfl) (by kernel_rfl) hBr ?_
          repeat (go_big_quiet_step (exact Cw.calls _ HBI))
          refine wpQuiet_nil ?_
          rintro _ ⟨z6, rfl⟩
          go_wp2
          exact ⟨⟨k + 1, by simp, by omega, by rw [HSU.out], z6.b⟩, by simp [intOf]; omega⟩
        | true =>
          by_cases hy0 : yb = 0
          · have HSU : Hid (fin1 h ns d (k + 1) = true) := by show _ = _; rw [hsu, hf1]; simp [hy0]
            subst hy0
            clear hsu hf1
            go_wp2
            refine wp_region_cw (W := W) (by kernel_rfl) (by kernel_rfl) hBr ?_
            repeat (go_big_quiet_step (exact Cw.calls _ HBI))
            refine wpQuiet_nil ?_
            rintro _ ⟨z6, rfl⟩
            go_wp2
            exact ⟨⟨k + 1, by simp, by omega, by rw [HSU.out], z6.b⟩, by simp [intOf]; omega⟩
          · have hyb : (yb == 0) = false := by simpa using hy0
            have HSU : Hid (fin1 h ns d (k + 1) = d.testBit k) := by show _ = _; rw [hsu, hf1]; simp [hy0]
            clear hsu hf1 hy0
            cases hdk : d.testBit k with
            | true =>
              rw [hdk, if_pos rfl] at hdv
              rw [hdk] at HSU
              clear hdk
              go_wp2
              refine wp_region_cw (W := W) (by kernel_rfl) (by kernel_rfl) hBr ?_
              repeat (go_big_quiet_step (exact Cw.calls _ HBI))
              refine wpQuiet_nil ?_
              rintro _ ⟨z6, rfl⟩
              go_wp2
              exact ⟨⟨k + 1, by simp, by omega, by rw [HSU.out], z6.b⟩, by simp [intOf]; omega⟩
            | false =>
              rw [hdk, if_neg (by simp)] at hdv
              rw [hdk] at HSU
              clear hdk
              go_wp2
              refine wp_region_cw (W := W) (by kernel_rfl) (by kernel_rfl) hBr ?_
              repeat (go_big_quiet_step (exact Cw.calls _ HBI))
              refine wpQuiet_nil ?_
              rintro _ ⟨z6, rfl⟩
              go_wp2
              exact ⟨⟨k + 1, by simp, by omega, by rw [HSU.out], z6.b⟩, by simp [intOf]; omega⟩
      · have : k = ns.length := by omega
        obtain ⟨p, hpe⟩ : ∃ p, p = ns.length := ⟨_, rfl⟩
        subst this
        have hfin := fin1_fine h ns d
        cases hfb : fin1 h ns d ns.length with
        | true =>
          have HFI : Hid (IsL (L h ns) d.testBit th v (some [])) := isL_fine (by rw [← hfin]; exact hfb)
          have HPO : Hid (FP h ns c m w d th v n (.returned (.tuple #[.slice none 0 0, .bool true])) wr) := ⟨some [], _, n, D, HFI.out, rfl, World.ownsRow_nil _ _ _ _, HMZ.out ⟨_, hBr⟩, HFA.out, by omega, Out.of_below (HBZ.out ⟨_, hBr⟩)⟩
          clear hfin hfb
          go_wp2
          go_ret2
          exact HPO.out
        | false =>
          have HFB : Hid (fineB (L h ns) d.testBit = false) := by show _ = _; rw [← hfin]; exact hfb
          clear hfin hfb
          have hm1 : 1 ≤ m := by
            rcases Nat.eq_zero_or_pos m with e | e
            · have h0 : left (L h ns).length d.testBit = 0 := by rw [L_len]; omega
              have := HFB.out
              rw [fine_left h0] at this
              cases this
            · exact e
          have HFC : Hid (FC h ns c (m - 1)) := HR.out.resolve_left (by omega)
          have HST : Hid (Sq c h ns wr ∧ wr.ownsMap Try.prog 64 (plainElem Try.prog 3) c.M n D ∧ Out (fun i => i = c.M) w wr ∧ wr.heap[w.heap.size]? = some (.cells #[.int .i64 (d : Int), .bool th, .string ⟨v.toArray⟩] 64 (0, 0))) := ⟨HS.out.below hBr, HMZ.out ⟨_, hBr⟩, Out.of_below (HBZ.out ⟨_, hBr⟩), (hBr.block _ hzW).trans HX1.out⟩
          have hMw : c.M < w.heap.size ∧ c.s < w.heap.size := HMS.out
          clear f0 f1 f2 f3 f4 hC0 hC1 hC2 hBr HBZ HMZ HM HS HB0 hneW
          go_wp2
          clear hD1
          go_loopw [8] (fun kv wr => ∃ (k n1 : Nat) (D1 : DataW Unit), kv = .int .i64 k ∧ k ≤ ns.length ∧ Past (L h ns) d.testBit th v k ∧ Sq c h ns wr ∧ wr.ownsMap Try.prog 64 (plainElem Try.prog 3) c.M n1 D1 ∧ Fa h ns D1 ∧ n1 ≤ n + k * cst (m - 1) ∧ Out (fun i => i = c.M) w wr ∧ wr.heap[w.heap.size]? = some (.cells #[.int .i64 (d : Int), .bool th, .string ⟨v.toArray⟩] 64 (0, 0))) (fun kv _ => ns.length - (intOf kv).toNat)
          case atStart => exact ⟨0, n, D, rfl, by omega, past0, HST.out.1, HST.out.2.1, HFA.out, by omega, HST.out.2.2.1, HST.out.2.2.2⟩
          case round =>
            obtain ⟨k, n1, D1, rfl, hk, hpast, hS1, hM1, hF1, hn1, hO1, hb1⟩ := hrel
            have hz1 := hO1.size
            have hbl : w.heap.size < wr.heap.size := (Array.getElem?_eq_some_iff.1 hb1).1
            obtain ⟨⟨x0, x1, x2⟩, -⟩ := cells3 hb1
            have hC1 := hS1.c1
            by_cases hlt : k < ns.length
            · have HMA := may_any c h ns hp wr hS1 d hd4 th v k hlt
              unfold ptr atV str at HMA
              have HS1 : Hid (Sq c h ns wr) := hS1
              have HM1 : Hid (wr.ownsMap Try.prog 64 (plainElem Try.prog 3) c.M n1 D1) := hM1
              have HF1 : Hid (Fa h ns D1) := hF1
              have HO1 : Hid (Out (fun i => i = c.M) w wr) := hO1
              have HB1 : Hid (wr.heap[w.heap.size]? = some (.cells #[.int .i64 (d : Int), .bool th, .string ⟨v.toArray⟩] 64 (0, 0))) := hb1
              have HP1 : Hid (Past (L h ns) d.testBit th v k) := hpast
              have hLk := L_at h ns hlt
              have HSK : Hid (mayB (L h ns) d.testBit k = false → Past (L h ns) d.testBit th v (k + 1)) := fun hf => HP1.out.skip (by unfold nextB; rw [hf]; rfl)
              have HOB : Hid (okB th v (nops h ns k) = false → Past (L h ns) d.testBit th v (k + 1)) := fun hf => HP1.out.skip (by unfold nextB; rw [hLk, hf]; simp)
              have HNX : Hid (mayB (L h ns) d.testBit k = true → okB th v (nops h ns k) = true → nextB (L h ns) d.testBit th v k = true) := fun h1 h2 => by unfold nextB; rw [hLk, h1, h2]; rfl
              have HGO : Hid (∀ w2, Below wr.heap.size wr w2 → (∃ (k' n1 : Nat) (D1 : DataW Unit), Value.int .i64 ((k : Int) + 1) = .int .i64 k' ∧ k' ≤ ns.length ∧ Past (L h ns) d.testBit th v k' → True)) := fun _ _ => ⟨0, 0, D, fun _ => trivial⟩
              clear hS1 hM1 hF1 hO1 hb1 hpast HGO
              cases hmay : mayB (L h ns) d.testBit k with
              | false =>
                rw [hmay] at HMA
                have HPN : Hid (Past (L h ns) d.testBit th v (k + 1)) := HSK.out hmay
                clear hmay
                go_wp2_with (go_at_call 44; refine HMA.mono ?_; rintro e w1 ⟨rfl, hB1⟩)
                exact ⟨⟨k + 1, n1, D1, by simp, by omega, HPN.out, HS1.out.below hB1, mapOut (X := fun _ => False) HM1.out (Out.of_below hB1) id, HF1.out, Nat.le_trans hn1 (Nat.add_le_add_left (Nat.mul_le_mul_right _ (by omega)) _), HO1.out.trans (Out.of_below (X := fun i => i = c.M) hB1) (fun i hi _ => hi), (hB1.block _ hbl).trans HB1.out⟩, by simp [intOf]; omega⟩
              | true =>
                rw [hmay] at HMA
                have HMY : Hid (mayB (L h ns) d.testBit k = true) := hmay
                clear hmay HSK
                go_wp2_with (go_at_call 44; refine HMA.mono ?_; rintro e w1 ⟨rfl, hB1⟩)
                have hz2 := hB1.size
                obtain ⟨g, b, off, hoa, hha, ck, hnk, ok, hgl, hbl2⟩ := (HS1.out.below hB1).at hlt
                have hE0 := (HS1.out.below hB1).c0
                have hE1 := (HS1.out.below hB1).c1
                obtain ⟨⟨y0, y1, y2⟩, -⟩ := cells3 ((hB1.block _ hbl).trans HB1.out)
                have HB2 : Hid (Below wr.heap.size wr w1) := hB1
                rw [hha] at hE0
                rw [hoa] at hE1
                have HX := refStep_any th v (nops h ns k)
                have HXV := hok k
                have HNK : Hid (gone ns (some [k]) = [ns.getD k 0]) := rfl
                obtain ⟨o0, o1, o2, o3, o4, o5, o6, o7, o8, o9⟩ := ok
                clear HMA hB1 hoa hha x0 x1 x2
                generalize hxe : nops h ns k = x at *
                generalize hnke : ns.getD k 0 = nk at *
                have HOKB : Hid (okB th v x = (decide (x.back = 0) || decide ((step th v x).2.2 = x.rp))) := rfl
                unfold str at o3 o4 o5 o9
                have m0 := World.new_ne w1 _ hE0
                have m1 := World.new_ne w1 _ ck
                have m2 := World.new_ne w1 _ o0
                have m3 := World.new_ne w1 _ y0
                dsimp only at m0 m1 m2 m3
                go_region_held3 (fun V => V.cell? ⟨c.s, 0, none⟩ = some (.slice (some ⟨b, off, none⟩) h.length c.hc) ∧ V.cell? ⟨c.s, 1, none⟩ = some (.slice (some ⟨g, 0, none⟩) ns.length c.oc) ∧ V.cell? ⟨g, k, none⟩ = some (.int .i64 (nk : Int)) ∧ V.cell? ⟨b, off + nk * 10, none⟩ = some (.int .i64 x.cl) ∧ V.cell? ⟨b, off + nk * 10 + 1, none⟩ = some (.int .i64 x.sq) ∧ V.cell? ⟨b, off + nk * 10 + 2, none⟩ = some (.int .i64 x.kind) ∧ V.cell? ⟨b, off + nk * 10 + 3, none⟩ = some (.string ⟨x.key.toArray⟩) ∧ V.cell? ⟨b, off + nk * 10 + 4, none⟩ = some (.string ⟨x.val.toArray⟩) ∧ V.cell? ⟨b, off + nk * 10 + 5, none⟩ = some (.string ⟨x.old.toArray⟩) ∧ V.cell? ⟨b, off + nk * 10 + 6, none⟩ = some (.int .i64 x.call) ∧ V.cell? ⟨b, off + nk * 10 + 7, none⟩ = some (.int .i64 x.back) ∧ V.cell? ⟨b, off + nk * 10 + 8, none⟩ = some (.int .i64 x.rp.code) ∧ V.cell? ⟨b, off + nk * 10 + 9, none⟩ = some (.string ⟨x.rp.val.toArray⟩)) (go_keep) (fail)
                obtain ⟨W2, hW2⟩ : ∃ W2, (w1.alloc x.box).drew = W2 := ⟨_, rfl⟩
                have hq2 : W2.heap[w1.heap.size]? = some x.box := by rw [← hW2]; exact heap_alloc_new w1 _
                have hBW : Below w1.heap.size w1 W2 := by rw [← hW2]; exact ((Below.refl _ w1).alloc (Nat.le_refl _) _).drew
                have hz3 : w1.heap.size < W2.heap.size := (Array.getElem?_eq_some_iff.1 hq2).1
                obtain ⟨p0, p1, p2, p3, p4, p5, p6, p7, p8, p9⟩ := opAt_box hq2
                have y1' := (hBW.cell (p := ⟨w.heap.size, 1, none⟩) (by show w.heap.size < _; omega)).trans y1
                have y2' := (hBW.cell (p := ⟨w.heap.size, 2, none⟩) (by show w.heap.size < _; omega)).trans y2
                have HBW : Hid (Below wr.heap.size wr W2) := HB2.out.trans (hBW.mono hz2)
                have HQ2 : Hid (W2.heap[w1.heap.size]? = some x.box) := hq2
                unfold Lo.box Lo.cells str at hW2
                rw [hW2]
                clear hW2 hq2 hBW o0 o1 o2 o3 o4 o5 o6 o7 o8 o9 hE0 hE1 ck m0 m1 m2 m3 y0 y1 y2
                unfold str at p3 p4 p5 p9
                generalize hst : step th v x = st at *
                obtain ⟨s1, s2, s3, s4⟩ := st
                unfold stV Rp.v Lo.v at HX
                unfold str at HX
                dsimp only at HX HOKB
                have HSL : Hid (s2.length ≤ maxLen) := by have := step_val (th := th) hv HXV; rw [hst] at this; exact this
                have HSE : Hid (step th v (oat (L h ns) k) = (s1, s2, ⟨s3, s4⟩)) := by show _ = _; rw [hLk]; exact hst
                clear hst
                have hdj : (okB th v x = true ∧ (x.back = 0 ∨ (x.back ≠ 0 ∧ x.rp.code = s3 ∧ x.rp.val = s4))) ∨ (okB th v x = false ∧ x.back ≠ 0 ∧ ((s3 == x.rp.code) = false ∨ ((s3 == x.rp.code) = true ∧ (s4 == x.rp.val) = false))) := by
                  rw [HOKB.out]
                  by_cases t1 : x.back = 0
                  · left; exact ⟨by simp [t1], .inl t1⟩
                  by_cases t2 : (⟨s3, s4⟩ : Rp) = x.rp
                  · left; exact ⟨by simp [t2], .inr ⟨t1, by rw [← t2], by rw [← t2]⟩⟩
                  · right
                    refine ⟨by simp [t1, t2], t1, ?_⟩
                    by_cases v1 : s3 = x.rp.code
                    · right
                      refine ⟨by simpa using v1, ?_⟩
                      simp only [beq_eq_false_iff_ne, ne_eq]
                      intro v2
                      exact t2 (by rw [v1, v2])
                    · left; simpa using v1
                rcases hdj with ⟨hok1, hdj⟩ | ⟨hok0, hb0, hdj⟩
                · have HNXT : Hid (nextB (L h ns) d.testBit th v k = true) := HNX.out HMY.out hok1
                  have hdk : d.testBit k = false := nextB_not HNXT.out
                  have hor := or_add k d hdk
                  have HTU := test_upd d k
                  have hx1 : left ns.length (d ||| 2 ^ k).testBit ≤ m - 1 := by have := left_upd hdk ns.length hlt; rw [HTU]; omega
                  have hx2 : (d ||| 2 ^ k) < 2 ^ ns.length := Nat.or_lt_two_pow hd (Nat.pow_lt_pow_right (by omega) hlt)
                  have HSO : Hid (∀ l, IsL (L h ns) (d ||| 2 ^ k).testBit s1 s2 (some l) → IsL (L h ns) d.testBit th v (some (k :: l))) := fun l hl => by
                    rw [HTU] at hl
                    refine HP1.out.some HFB.out (by rw [L_len]; exact hlt) HNXT.out ?_
                    rw [HSE.out]; exact hl
                  have HNO : Hid (IsL (L h ns) (d ||| 2 ^ k).testBit s1 s2 none → Past (L h ns) d.testBit th v (k + 1)) := fun hl => by
                    rw [HTU] at hl
                    refine HP1.out.no ?_
                    rw [HSE.out]; exact hl
                  have hcst : (k + 1) * cst (m - 1) + 1 ≤ cst m := by
                    rw [cst_succ hm1]
                    have := Nat.mul_le_mul_right (cst (m - 1)) (show k + 1 ≤ 12 by omega)
                    omega
                  have hcs2 : (k + 1) * cst (m - 1) = k * cst (m - 1) + cst (m - 1) := by rw [Nat.add_mul]; omega
                  have HN3 : Hid (n1 + cst (m - 1) ≤ 140737488355328 ∧ n1 + cst (m - 1) ≤ n + (k + 1) * cst (m - 1) ∧ n + (k + 1) * cst (m - 1) ≤ n + cst m) := ⟨by omega, by omega, by omega⟩
                  have hint : ((d ||| 2 ^ k : Nat) : Int) = (d : Int) + ((2 ^ k : Nat) : Int) := by rw [hor]; exact Int.natCast_add _ _
                  have HFR : Hid (∀ V, Below wr.heap.size wr V → Calls Try.prog 34 #[.pointer (some ⟨c.s, 0, none⟩), .agg #[.int .i64 ((d : Int) + ((2 ^ k : Nat) : Int)), .bool s1, .string ⟨s2.toArray⟩]] V (FP h ns c (m - 1) V (d ||| 2 ^ k) s1 s2 n1)) := fun V hV => by
                    have := HFC.out V (d ||| 2 ^ k) s1 s2 n1 D1 (HS1.out.below hV) (mapOut (X := fun _ => False) HM1.out (Out.of_below hV) id) HF1.out hx2 HSL.out hx1 HN3.out.1
                    unfold ptr atV str at this
                    rw [hint] at this
                    exact this
                  have HBI : ∀ w, Calls Try.prog 43 #[.int .i64 (k : Int)] w fun e w' => e = .returned (.int .i64 ((2 ^ k : Nat) : Int)) ∧ w' = w := bit_any k (by omega)
                  have hpk := pow_le (show k ≤ 12 by omega)
                  clear hor HTU hx1 hx2 hcst hcs2 hint hdk hok1 HOKB HOB HNX
                  generalize 2 ^ k = p at *
                  have hwp : IntKind.i64.wrap ((d : Int) + (p : Int)) = (d : Int) + (p : Int) := by rw [IntKind.wrap_i64]; omega
                  rcases hdj with hb0 | ⟨hb1, u1, u2⟩
                  · have hbb : (x.back != 0) = false := by simp [hb0]
                    clear hb0
                    go_wp2_with (go_at_call 25; refine (HX _).mono ?_; rintro e w3 ⟨rfl, hB3⟩; have hz4 := hB3.size; have e7 := (hB3.cell (p := ⟨w1.heap.size, 7, none⟩) hz3).trans p7; have e8 := (hB3.cell (p := ⟨w1.heap.size, 8, none⟩) hz3).trans p8; have e9 := (hB3.cell (p := ⟨w1.heap.size, 9, none⟩) hz3).trans p9; have qb := past1 (w1 := w3) (b := w1.heap.size) (Nat.lt_of_lt_of_le hz3 hz4); have HB4 : Hid (∀ o : Obj, Below wr.heap.size wr (w3.alloc o)) := (fun o => (HBW.out.trans (hB3.mono HBW.out.size)).alloc (Nat.le_trans HBW.out.size hz4) _); clear hB3)
                    have u0 := ((HB4.out (.cells #[.int .i64 s3, .string ⟨s4.toArray⟩] 33)).cell (p := ⟨w.heap.size, 0, none⟩) hbl).trans (cells3 HB1.out).1.1
                    have HW4 : Hid (Below wr.heap.size wr (w3.alloc (.cells #[.int .i64 s3, .string ⟨s4.toArray⟩] 33))) := HB4.out _
                    clear e7 e8 e9 qb HB4 p0 p1 p2 p3 p4 p5 p6 p7 p8 p9 y1' y2' HX
                    generalize w3.alloc (.cells #[.int .i64 s3, .string ⟨s4.toArray⟩] 33) = W4 at *
                    have HWD : Hid (Below wr.heap.size wr W4.drew) := HW4.out.drew
                    have hz5 := HWD.out.size
                    clear hLk HXV hz3 hz4
                    go_region_held3 (fun V => V.cell? ⟨w.heap.size, 0, none⟩ = some (.int .i64 (d : Int))) (first | exact u5 | exact u0)
                      (first
                        | (go_at_call 43; refine (HBI _).mono ?_; rintro e w5 ⟨rfl, rfl⟩)
                        | (go_at_call 34; refine (HFR.out _ HWD.out).mono ?_; rintro e w5 ⟨r, lv, n5, D5, hL5, rfl, hI5, hM5, hF5, hn5, hO5⟩; obtain ⟨la, lc, hls, -, -⟩ := row_shape hI5; subst hls; have u5 := out_cell hO5 u0 (by omega); have HI5 : Hid (IOw _ w5 _ _) := hI5; have HM5 : Hid (w5.ownsMap _ _ _ _ _ _) := hM5; have HF5 : Hid (Fa h ns D5) := hF5; have HO5 : Hid (Out _ _ w5) := hO5; have HL5 : Hid (IsL _ _ _ _ r) := hL5; clear hI5 hM5 hF5 hO5 hL5)
                        | fail)
                    have hz6 := HO5.out.size
                    have HOW : Hid (Out (fun i => i = c.M) w w5) := (HO1.out.trans (Out.of_below (X := fun i => i = c.M) HWD.out) (fun i hi _ => hi)).trans HO5.out (fun i hi _ => hi)
                    have HS5 : Hid (Sq c h ns w5) := (HS1.out.below HWD.out).out HO5.out
                    have HX5 : Hid (w5.heap[w.heap.size]? = some (.cells #[.int .i64 (d : Int), .bool th, .string ⟨v.toArray⟩] 64 (0, 0))) := (HO5.out.block _ (by omega) (by omega)).trans ((HWD.out.block _ hbl).trans HB1.out)
                    cases r with
                    | none =>
                      have HPN : Hid (Past (L h ns) d.testBit th v (k + 1)) := HNO.out HL5.out
                      simp only [Option.isSome_none]
                      go_wp2
                      exact ⟨⟨k + 1, n5, D5, by simp, by omega, HPN.out, HS5.out, HM5.out, HF5.out, by have := HN3.out; omega, HOW.out, HX5.out⟩, by simp [intOf]; omega⟩
                    | some l =>
                      have HL6 : Hid (IsL (L h ns) d.testBit th v (some (k :: l))) := HSO.out l HL5.out
                      obtain ⟨g, b, off, hoa, hha, ck, hnk2, -, hgl, -⟩ := HS5.out.at hlt
                      have hE1 := HS5.out.c1
                      rw [hoa] at hE1
                      rw [hnke] at ck
                      have HGN : Hid (gone ns (some (k :: l)) = nk :: gone ns (some l)) := by show ns.getD k 0 :: gone ns (some l) = _; rw [hnke]
                      have HFIN : Hid (∀ (w7 : World) (v7 : Value), w7.ownsRow w.heap.size 3 1 v7 (1 + (gone ns (some l)).length) (encI nk :: (gone ns (some l)).map encI) → Out (fun i => i = w5.heap.size) w5 w7 → FP h ns c m w d th v n (.returned (.tuple #[v7, .bool true])) w7) := fun w7 v7 hrow hO7 => by
                        refine ⟨some (k :: l), v7, n5, D5, HL6.out, rfl, ?_, ?_, HF5.out, by have := HN3.out; omega, ?_⟩
                        · rw [HGN.out]; rw [Nat.add_comm 1] at hrow; exact hrow
                        · exact mapOut (X := fun i => i = w5.heap.size) HM5.out hO7 (by omega)
                        · exact HOW.out.trans hO7 (fun i hi hl => by omega)
                      have m1 := past1 (w1 := w5) (b := g) hgl
                      have hl12 : (gone ns (some l)).length ≤ 1000 := by
                        have h1 := path_len l _ _ _ HL5.out.path
                        have h2 := left_le (L h ns).length (d ||| p).testBit
                        rw [L_len] at h1 h2
                        show (numsOf ns l).length ≤ 1000
                        simp only [numsOf, List.length_map]
                        omega
                      simp only [Option.isSome_some]
                      generalize gone ns (some l) = gl at *
                      rcases HI5.out.2 with ⟨q1, q2⟩ | ⟨g2, cap2, cur2, q1, -⟩
                      · have hg0 : gl = [] := List.length_eq_zero_iff.1 q2
                        subst hg0
                        injection q1 with r1 r2 r3
                        subst r1 r3
                        go_wp2
                        go_ret2
                        exact HFIN.out _ _ (World.ownsRow_lit w5 #[encI nk] 1 (by omega) (by decide) rfl) (Out.of_below ((Below.refl _ w5).alloc (Nat.le_refl _) _))
                      · injection q1 with r1 r2 r3
                        subst r1 r3
                        go_wp2_with (at_builtin; refine wpList_app tyI rfl _ _ rfl w.heap.size (.slice (some ⟨w5.heap.size, 0, none⟩) 1 1) 1 [encI nk] ⟨g2, 0, none⟩ gl.length lc (gl.map encI) rfl (World.ownsRow_lit w5 #[encI nk] 1 (by omega) (by decide) rfl) rfl (by simp) (World.ownsRow.cells (World.ownsRow.alloc HI5.out _) rfl) (by intro u hu; obtain ⟨y, -, rfl⟩ := List.mem_map.1 hu; rfl) (by omega) (by simp; omega) ?_; intro v7 w7 p1 p2 p3; obtain ⟨a7, c7, hv7, -, -⟩ := row_shape p1; subst hv7)
                        go_ret2
                        refine HFIN.out _ _ p1 ?_
                        exact ((Out.refl (fun i => i = w5.heap.size) w5).alloc _).trans (Out.grown (X := fun i => i = w5.heap.size) p2 (fun j e => by cases e; rfl)) (fun i hi _ => hi)
                  · have hbb : (x.back != 0) = true := by simpa using hb1
                    have U1 : Hid (x.rp.code = s3) := u1
                    have U2 : Hid (x.rp.val = s4) := u2
                    clear hb1 u1 u2
                    go_wp2_with (go_at_call 25; refine (HX _).mono ?_; rintro e w3 ⟨rfl, hB3⟩; have hz4 := hB3.size; have e7 := (hB3.cell (p := ⟨w1.heap.size, 7, none⟩) hz3).trans p7; have e8 := (hB3.cell (p := ⟨w1.heap.size, 8, none⟩) hz3).trans p8; have e9 := (hB3.cell (p := ⟨w1.heap.size, 9, none⟩) hz3).trans p9; rw [U1.out] at e8; rw [U2.out] at e9; have qb := past1 (w1 := w3) (b := w1.heap.size) (Nat.lt_of_lt_of_le hz3 hz4); have HB4 : Hid (∀ o : Obj, Below wr.heap.size wr (w3.alloc o)) := (fun o => (HBW.out.trans (hB3.mono HBW.out.size)).alloc (Nat.le_trans HBW.out.size hz4) _); clear hB3)
                    have u0 := ((HB4.out (.cells #[.int .i64 s3, .string ⟨s4.toArray⟩] 33)).cell (p := ⟨w.heap.size, 0, none⟩) hbl).trans (cells3 HB1.out).1.1
                    have HW4 : Hid (Below wr.heap.size wr (w3.alloc (.cells #[.int .i64 s3, .string ⟨s4.toArray⟩] 33))) := HB4.out _
                    clear e7 e8 e9 qb HB4 p0 p1 p2 p3 p4 p5 p6 p7 p8 p9 y1' y2' HX
                    generalize w3.alloc (.cells #[.int .i64 s3, .string ⟨s4.toArray⟩] 33) = W4 at *
                    have HWD : Hid (Below wr.heap.size wr W4.drew) := HW4.out.drew
                    have hz5 := HWD.out.size
                    clear hLk HXV hz3 hz4
                    go_region_held3 (fun V => V.cell? ⟨w.heap.size, 0, none⟩ = some (.int .i64 (d : Int))) (first | exact u5 | exact u0)
                      (first
                        | (go_at_call 43; refine (HBI _).mono ?_; rintro e w5 ⟨rfl, rfl⟩)
                        | (go_at_call 34; refine (HFR.out _ HWD.out).mono ?_; rintro e w5 ⟨r, lv, n5, D5, hL5, rfl, hI5, hM5, hF5, hn5, hO5⟩; obtain ⟨la, lc, hls, -, -⟩ := row_shape hI5; subst hls; have u5 := out_cell hO5 u0 (by omega); have HI5 : Hid (IOw _ w5 _ _) := hI5; have HM5 : Hid (w5.ownsMap _ _ _ _ _ _) := hM5; have HF5 : Hid (Fa h ns D5) := hF5; have HO5 : Hid (Out _ _ w5) := hO5; have HL5 : Hid (IsL _ _ _ _ r) := hL5; clear hI5 hM5 hF5 hO5 hL5)
                        | fail)
                    have hz6 := HO5.out.size
                    have HOW : Hid (Out (fun i => i = c.M) w w5) := (HO1.out.trans (Out.of_below (X := fun i => i = c.M) HWD.out) (fun i hi _ => hi)).trans HO5.out (fun i hi _ => hi)
                    have HS5 : Hid (Sq c h ns w5) := (HS1.out.below HWD.out).out HO5.out
                    have HX5 : Hid (w5.heap[w.heap.size]? = some (.cells #[.int .i64 (d : Int), .bool th, .string ⟨v.toArray⟩] 64 (0, 0))) := (HO5.out.block _ (by omega) (by omega)).trans ((HWD.out.block _ hbl).trans HB1.out)
                    cases r with
                    | none =>
                      have HPN : Hid (Past (L h ns) d.testBit th v (k + 1)) := HNO.out HL5.out
                      simp only [Option.isSome_none]
                      go_wp2
                      exact ⟨⟨k + 1, n5, D5, by simp, by omega, HPN.out, HS5.out, HM5.out, HF5.out, by have := HN3.out; omega, HOW.out, HX5.out⟩, by simp [intOf]; omega⟩
                    | some l =>
                      have HL6 : Hid (IsL (L h ns) d.testBit th v (some (k :: l))) := HSO.out l HL5.out
                      obtain ⟨g, b, off, hoa, hha, ck, hnk2, -, hgl, -⟩ := HS5.out.at hlt
                      have hE1 := HS5.out.c1
                      rw [hoa] at hE1
                      rw [hnke] at ck
                      have HGN : Hid (gone ns (some (k :: l)) = nk :: gone ns (some l)) := by show ns.getD k 0 :: gone ns (some l) = _; rw [hnke]
                      have HFIN : Hid (∀ (w7 : World) (v7 : Value), w7.ownsRow w.heap.size 3 1 v7 (1 + (gone ns (some l)).length) (encI nk :: (gone ns (some l)).map encI) → Out (fun i => i = w5.heap.size) w5 w7 → FP h ns c m w d th v n (.returned (.tuple #[v7, .bool true])) w7) := fun w7 v7 hrow hO7 => by
                        refine ⟨some (k :: l), v7, n5, D5, HL6.out, rfl, ?_, ?_, HF5.out, by have := HN3.out; omega, ?_⟩
                        · rw [HGN.out]; rw [Nat.add_comm 1] at hrow; exact hrow
                        · exact mapOut (X := fun i => i = w5.heap.size) HM5.out hO7 (by omega)
                        · exact HOW.out.trans hO7 (fun i hi hl => by omega)
                      have m1 := past1 (w1 := w5) (b := g) hgl
                      have hl12 : (gone ns (some l)).length ≤ 1000 := by
                        have h1 := path_len l _ _ _ HL5.out.path
                        have h2 := left_le (L h ns).length (d ||| p).testBit
                        rw [L_len] at h1 h2
                        show (numsOf ns l).length ≤ 1000
                        simp only [numsOf, List.length_map]
                        omega
                      simp only [Option.isSome_some]
                      generalize gone ns (some l) = gl at *
                      rcases HI5.out.2 with ⟨q1, q2⟩ | ⟨g2, cap2, cur2, q1, -⟩
                      · have hg0 : gl = [] := List.length_eq_zero_iff.1 q2
                        subst hg0
                        injection q1 with r1 r2 r3
                        subst r1 r3
                        go_wp2
                        go_ret2
                        exact HFIN.out _ _ (World.ownsRow_lit w5 #[encI nk] 1 (by omega) (by decide) rfl) (Out.of_below ((Below.refl _ w5).alloc (Nat.le_refl _) _))
                      · injection q1 with r1 r2 r3
                        subst r1 r3
                        go_wp2_with (at_builtin; refine wpList_app tyI rfl _ _ rfl w.heap.size (.slice (some ⟨w5.heap.size, 0, none⟩) 1 1) 1 [encI nk] ⟨g2, 0, none⟩ gl.length lc (gl.map encI) rfl (World.ownsRow_lit w5 #[encI nk] 1 (by omega) (by decide) rfl) rfl (by simp) (World.ownsRow.cells (World.ownsRow.alloc HI5.out _) rfl) (by intro u hu; obtain ⟨y, -, rfl⟩ := List.mem_map.1 hu; rfl) (by omega) (by simp; omega) ?_; intro v7 w7 p1 p2 p3; obtain ⟨a7, c7, hv7, -, -⟩ := row_shape p1; subst hv7)
                        go_ret2
                        refine HFIN.out _ _ p1 ?_
                        exact ((Out.refl (fun i => i = w5.heap.size) w5).alloc _).trans (Out.grown (X := fun i => i = w5.heap.size) p2 (fun j e => by cases e; rfl)) (fun i hi _ => hi)
                · have hbb : (x.back != 0) = true := by simpa using hb0
                  have HPN : Hid (Past (L h ns) d.testBit th v (k + 1)) := HOB.out hok0
                  clear hok0 hb0 HOKB HOB HNX
                  have HEND : Hid (∀ (w3 : World), (∀ o : Obj, Below wr.heap.size wr (w3.alloc o)) → ∀ o : Obj, ∃ (k' n1 : Nat) (D1 : DataW Unit), Value.int .i64 ((k : Int) + 1) = .int .i64 k' ∧ k' ≤ ns.length ∧ Past (L h ns) d.testBit th v k' ∧ Sq c h ns (w3.alloc o) ∧ (w3.alloc o).ownsMap Try.prog 64 (plainElem Try.prog 3) c.M n1 D1 ∧ Fa h ns D1 ∧ n1 ≤ n + k' * cst (m - 1) ∧ Out (fun i => i = c.M) w (w3.alloc o) ∧ (w3.alloc o).heap[w.heap.size]? = some (.cells #[.int .i64 (d : Int), .bool th, .string ⟨v.toArray⟩] 64 (0, 0))) := fun w3 HB4 o =>
                    ⟨k + 1, n1, D1, by simp, by omega, HPN.out, HS1.out.below (HB4 o), mapOut (X := fun _ => False) HM1.out (Out.of_below (HB4 o)) id, HF1.out, Nat.le_trans hn1 (Nat.add_le_add_left (Nat.mul_le_mul_right _ (by omega)) _), HO1.out.trans (Out.of_below (X := fun i => i = c.M) (HB4 o)) (fun i hi _ => hi), ((HB4 o).block _ hbl).trans HB1.out⟩
                  rcases hdj with d1 | ⟨d1, d2⟩
                  · go_wp2_with (go_at_call 25; refine (HX _).mono ?_; rintro e w3 ⟨rfl, hB3⟩; have hz4 := hB3.size; have e7 := (hB3.cell (p := ⟨w1.heap.size, 7, none⟩) hz3).trans p7; have e8 := (hB3.cell (p := ⟨w1.heap.size, 8, none⟩) hz3).trans p8; have e9 := (hB3.cell (p := ⟨w1.heap.size, 9, none⟩) hz3).trans p9; have qb := past1 (w1 := w3) (b := w1.heap.size) (Nat.lt_of_lt_of_le hz3 hz4); have HB4 : Hid (∀ o : Obj, Below wr.heap.size wr (w3.alloc o)) := (fun o => (HBW.out.trans (hB3.mono HBW.out.size)).alloc (Nat.le_trans HBW.out.size hz4) _); clear hB3)
                    exact ⟨HEND.out _ HB4.out _, by simp [intOf]; omega⟩
                  · go_wp2_with (go_at_call 25; refine (HX _).mono ?_; rintro e w3 ⟨rfl, hB3⟩; have hz4 := hB3.size; have e7 := (hB3.cell (p := ⟨w1.heap.size, 7, none⟩) hz3).trans p7; have e8 := (hB3.cell (p := ⟨w1.heap.size, 8, none⟩) hz3).trans p8; have e9 := (hB3.cell (p := ⟨w1.heap.size, 9, none⟩) hz3).trans p9; have qb := past1 (w1 := w3) (b := w1.heap.size) (Nat.lt_of_lt_of_le hz3 hz4); have HB4 : Hid (∀ o : Obj, Below wr.heap.size wr (w3.alloc o)) := (fun o => (HBW.out.trans (hB3.mono HBW.out.size)).alloc (Nat.le_trans HBW.out.size hz4) _); clear hB3)
                    exact ⟨HEND.out _ HB4.out _, by simp [intOf]; omega⟩
            · have hkl : k = ns.length := by omega
              subst hkl
              have HNN : Hid (IsL (L h ns) d.testBit th v none) := Past.all (by rw [L_len]; exact hpast) HFB.out
              have hC2 := hS1.c2
              have hcst : ns.length * cst (m - 1) + 1 ≤ cst m := by
                rw [cst_succ hm1]
                have := Nat.mul_le_mul_right (cst (m - 1)) hp
                omega
              have hpl : plainElem (H := Unit) Try.prog 3 (.int .i64 1) = some (.lit (.int .i64 1), []) := plainElem_int Try.underlying3 (wf_i64 (by decide) (by decide))
              have hnm : n1 < maxLen := by unfold maxLen; omega
              obtain ⟨w4, hrun, hm4, ht4⟩ := World.ownsMap.store (w := wr.drew) (t := 59) hM1 keyedA Try.underlying59 hnm (ka_eq hd4 th hv) hpl
              unfold atV str at hrun
              have hO4 : Out (fun i => i = c.M) w w4 := (hO1.trans (Out.of_below (X := fun i => i = c.M) (Below.refl _ wr).drew) (fun i hi _ => hi)).trans (Out.grown (X := fun i => i = c.M) ht4.grown (fun j e => by cases e; rfl)) (fun i hi _ => hi)
              have HPO : Hid (FP h ns c m w d th v n (.returned (.tuple #[.slice none 0 0, .bool false])) w4) := ⟨none, _, n1 + 1, _, HNN.out, rfl, World.ownsRow_nil _ _ _ _, hm4, hF1.put hd4 hv HNN.out, by omega, hO4⟩
              clear hpast hF1 hO1 hb1 hm4 ht4 hO4 hcst hM1 hS1
              go_wp2
              go_region
              all_goals (
                go_wp2
                go_ret2
                exact HPO.out)
theorem from_any (h : List Lo) (ns : List Nat) (hp : ns.length ≤ 12) (hns : ∀ i ∈ ns, i < 1000) (hok : ∀ j, (nops h ns j).val.length ≤ maxLen) (c : Ds) : ∀ m, FC h ns c m
  | 0 => from_step h ns hp hns hok c 0 (.inl rfl)
  | m + 1 => from_step h ns hp hns hok c (m + 1) (.inr (from_any h ns hp hns hok c m))
end Go.Proofs.Ytbcnpdpdflkanaa
