/-
  tasksOf, answered.
-/
import Derived.Test.YtbcnpdpdflkanaaCw
namespace Go.Proofs.Ytbcnpdpdflkanaa
open Go.RowKit

def pre (h : List Lo) (key : Bs) (k : Nat) : List Nat := (List.range k).filter (mine h key)
theorem pre_succ (h : List Lo) (key : Bs) (k : Nat) : pre h key (k + 1) = if mine h key k then pre h key k ++ [k] else pre h key k := by
  unfold pre
  rw [List.range_succ, List.filter_append]
  by_cases hm : mine h key k = true
  · simp [hm]
  · simp [hm]
theorem pre_le (h : List Lo) (key : Bs) {k : Nat} (hk : k ≤ h.length) : (pre h key k).length ≤ (nums h key).length := by
  unfold pre nums
  obtain ⟨d, hd⟩ : ∃ d, h.length = k + d := ⟨h.length - k, by omega⟩
  rw [hd, List.range_add, List.filter_append, List.length_append]
  omega

theorem tk_one (t : Tk) : ∀ u ∈ t.cells, u.oneCell' = true := by
  intro u hu
  simp only [Tk.cells, str, List.mem_cons, List.not_mem_nil, or_false] at hu
  rcases hu with rfl | rfl | rfl | rfl | rfl | rfl | rfl | rfl | rfl | rfl | rfl | rfl | rfl <;> rfl
theorem opAt_tk {w : World} {b : Nat} {t : Tk} (h : w.heap[b]? = some (.cells t.cells.toArray 77)) :
    (w.cell? ⟨b, 0, none⟩ = some (.int .i64 t.op.cl) ∧ w.cell? ⟨b, 1, none⟩ = some (.int .i64 t.op.sq) ∧ w.cell? ⟨b, 2, none⟩ = some (.int .i64 t.op.kind) ∧ w.cell? ⟨b, 3, none⟩ = some (str t.op.key) ∧ w.cell? ⟨b, 4, none⟩ = some (str t.op.val) ∧ w.cell? ⟨b, 5, none⟩ = some (str t.op.old) ∧
    w.cell? ⟨b, 6, none⟩ = some (.int .i64 t.op.call) ∧ w.cell? ⟨b, 7, none⟩ = some (.int .i64 t.op.back) ∧ w.cell? ⟨b, 8, none⟩ = some (.int .i64 t.op.rp.code) ∧ w.cell? ⟨b, 9, none⟩ = some (str t.op.rp.val)) ∧ w.cell? ⟨b, 10, none⟩ = some (.int .i64 t.num) ∧ w.cell? ⟨b, 11, none⟩ = some (.int .u64 t.bit) ∧ w.cell? ⟨b, 12, none⟩ = some (.int .u64 t.ah) := by
  unfold Tk.cells at h
  refine ⟨⟨?_, ?_, ?_, ?_, ?_, ?_, ?_, ?_, ?_, ?_⟩, ?_, ?_, ?_⟩
  all_goals (simp only [World.cell?, h]; rfl)
theorem opAt_box {w : World} {b : Nat} {x : Lo} (h : w.heap[b]? = some x.box) : OpAt w b 0 x := by
  unfold Lo.box Lo.cells at h
  unfold OpAt
  refine ⟨?_, ?_, ?_, ?_, ?_, ?_, ?_, ?_, ?_, ?_⟩
  all_goals (simp only [World.cell?, h]; rfl)

set_option maxRecDepth 100000 in
set_option maxHeartbeats 4000000 in
theorem tasksOf_any (N : Nat) (w : World) (a : Option Addr) (cap : Nat) (h : List Lo) (key : Bs) (hN : N ≤ w.heap.size) (hA : HAt N w a h) (hl : h.length ≤ 1000) (hc : (nums h key).length ≤ 12) :
    Calls Try.prog 36 #[.slice a h.length cap, str key] w fun e w' => ∃ v, e = .returned v ∧ TOw w.heap.size w' v (tasks h key) ∧ Below w.heap.size w w' := by
  have HC := counts_any
  have HO := open_any
  unfold str
  go_enter Try.func36, Try.ntmps36
  go_wp2
  go_loopw [13, 5] (fun i v wr => ∃ (k : Nat), i = .int .i64 k ∧ k ≤ h.length ∧ TOw w.heap.size wr v (tl h (pre h key k) (fun _ => 0)) ∧ Below w.heap.size w wr) (fun i _ _ => h.length - (intOf i).toNat)
  case atStart => exact ⟨0, rfl, by omega, World.ownsRow_nil _ _ _ _, Below.refl _ _⟩
  case round =>
    obtain ⟨k, rfl, hk, hT, hB⟩ := hrel
    have hz := hB.size
    obtain ⟨ta, tc, rfl, htc, hmc⟩ := row_shape hT
    have hpl := pre_le h key hk
    rw [tl_len] at htc ⊢
    by_cases hlt : k < h.length
    · obtain ⟨b, off, rfl, hb, hcs⟩ := (hA.below (hB.mono hN)).at hlt
      have HX := HC (oat h k)
      obtain ⟨c0, c1, c2, c3, c4, c5, c6, c7, c8, c9⟩ := hcs
      unfold Lo.v Lo.box Lo.cells at HX
      have HT : Hid (TOw w.heap.size wr (.slice ta (pre h key k).length tc) (tl h (pre h key k) (fun _ => 0))) := by have := hT; rw [tl_len] at this; exact this
      clear hT
      generalize hxe : oat h k = x at *
      have HXE : Hid (oat h k = x) := hxe
      clear hxe
      unfold str at HX c3 c4 c5 c9
      have hpw : (pre h key k).length ≤ 12 := by omega
      generalize hpe : (pre h key k).length = p at *
      have HPE : Hid ((pre h key k).length = p) := hpe
      clear hpe hpl
      by_cases hq : x.key = key
      · have hq1 : (x.key == key) = true := by simpa using hq
        have HQ : Hid (x.key = key) := hq
        clear hq
        by_cases hx : x.counts = true
        · rw [hx] at HX
          have HXC : Hid (x.counts = true) := hx
          clear hx
          go_wp2_with (go_at_call 16; refine (HX _).mono ?_; rintro e w1 ⟨rfl, rfl⟩)
          obtain ⟨W4, hW4⟩ : ∃ W4, ((wr.alloc x.box).alloc x.box).alloc x.box = W4 := ⟨_, rfl⟩
          have hz4 : W4.heap.size = wr.heap.size + 3 := by rw [← hW4]; simp
          have HB4 : Hid (Below wr.heap.size wr W4) := by show Below _ _ _; rw [← hW4]; exact (((Below.refl _ wr).alloc (Nat.le_refl _) _).alloc (by simp) _).alloc (by simp; omega) _
          have hX4 : W4.heap[wr.heap.size]? = some x.box := by rw [← hW4, Below.heap_alloc _ _ _ (by simp; omega), Below.heap_alloc _ _ _ (by simp)]; exact heap_alloc_new _ _
          have HX4 : OpAt W4 wr.heap.size 0 x := opAt_box hX4
          obtain ⟨d0, d1, d2, d3, d4, d5, d6, d7, d8, d9⟩ := HX4
          unfold str at d3 d4 d5 d9
          unfold Lo.box Lo.cells str at hW4
          rw [hW4]
          clear hW4 hX4 HX c0 c1 c2 c3 c4 c5 c6 c7 c8 c9
          obtain ⟨q, hqe⟩ : ∃ q : Nat, q = 2 ^ p := ⟨_, rfl⟩
          have hsh : IntKind.u64.wrap ((2 : Int) ^ p) = (q : Int) := by
            rw [hqe, IntKind.wrap_u64]
            have h4096 := pow_le hpw
            have : ((2 : Int) ^ p) = ((2 ^ p : Nat) : Int) := by simp
            rw [this]
            omega
          have HQE : Hid (q = 2 ^ p) := hqe
          clear hqe
          have hrow4 : ∀ n, ((W4.drewN n).alloc (.cells (⟨x, k, q, 0⟩ : Tk).cells.toArray 77)).ownsRow w.heap.size 77 13 (.slice ta p tc) p (tCells (tl h (pre h key k) (fun _ => 0))) := fun n => by
            have := row_below HT.out HB4.out
            rw [tl_len, HPE.out] at this
            exact World.ownsRow.alloc this _
          have hnew : ∀ n j u, (⟨x, k, q, 0⟩ : Tk).cells[j]? = some u → ((W4.drewN n).alloc (.cells (⟨x, k, q, 0⟩ : Tk).cells.toArray 77)).cell? ((⟨wr.heap.size + 3, 0, none⟩ : Addr).add j) = some u := fun n => by
            rw [← hz4]
            exact news_at (W4.drewN n) (⟨x, k, q, 0⟩ : Tk).cells.toArray 77
          have HNX : Hid (∀ v' w6, w6.ownsRow w.heap.size 77 13 v' (p + 1) (tCells (tl h (pre h key k) (fun _ => 0)) ++ (⟨x, k, q, 0⟩ : Tk).cells) → TOw w.heap.size w6 v' (tl h (pre h key (k + 1)) (fun _ => 0))) := fun v' w6 q1 => by
            have hps := pre_succ h key k
            rw [if_pos (by unfold mine; rw [HXE.out, HQ.out, HXC.out]; simp)] at hps
            rw [hps, tl_snoc, HXE.out, HPE.out, ← HQE.out]
            unfold TOw
            rw [List.length_append, tl_len, HPE.out]
            unfold tCells at q1 ⊢
            rw [List.flatMap_append]
            simpa using q1
          have hwz : w.heap.size ≤ W4.heap.size := by omega
          clear htc hmc
          go_region_law (first
            | (refine step_app tyT rfl (.tmp 26) (.tmp 33) rfl w.heap.size (.slice ta p tc) p _ ⟨wr.heap.size + 3, 0, none⟩ 1 1 (⟨x, k, q, 0⟩ : Tk).cells (by simp [Act.eval]) (hrow4 1) (by simp [Act.eval]) rfl (hnew 1) (tk_one _) (by omega) (by simp; omega) ?_; intro v' w6 q1 q2 q3; have HB6 : Hid (Below w.heap.size w w6) := ((((hB.trans (HB4.out.mono hz)).drew).alloc (by simp; omega) _).grown q2 (by simp; omega) (fun g hg => ((hrow4 1).lt g hg).1)); have HT6 : Hid (TOw _ _ _ _) := HNX.out v' w6 q1; obtain ⟨sa, sc, hsh6⟩ := row_shape q1; clear q1 q2 q3; obtain ⟨rfl, -⟩ := hsh6)
            | fail)
          all_goals
            go_wp2
            go_roundw
            case rel => exact ⟨k + 1, by simp, by omega, HT6.out, HB6.out⟩
            case measure => simp [intOf]; omega
        · have hx' : x.counts = false := by simpa using hx
          rw [hx'] at HX
          have HPS : Hid (pre h key (k + 1) = pre h key k) := by
            show _ = _
            rw [pre_succ, if_neg (by unfold mine; rw [HXE.out, hx']; simp)]
          clear hx hx'
          go_wp2_with (go_at_call 16; refine (HX _).mono ?_; rintro e w1 ⟨rfl, rfl⟩)
          go_roundw
          case rel =>
            refine ⟨k + 1, by simp, by omega, ?_, ((hB.alloc (by omega) _).alloc (by simp; omega) _).alloc (by simp; omega) _⟩
            rw [HPS.out]
            unfold TOw
            rw [tl_len, HPE.out]
            have := HT.out
            unfold TOw at this
            rw [tl_len, HPE.out] at this
            exact ((World.ownsRow.alloc this _).alloc _).alloc _
          case measure => simp [intOf]; omega
      · have hq1 : (x.key == key) = false := by simpa using hq
        have HPS : Hid (pre h key (k + 1) = pre h key k) := by
          show _ = _
          rw [pre_succ, if_neg (by unfold mine; rw [HXE.out]; simp [hq])]
        clear hq
        go_wp2
        go_roundw
        case rel =>
          refine ⟨k + 1, by simp, by omega, ?_, hB.alloc (by omega) _⟩
          rw [HPS.out]
          unfold TOw
          rw [tl_len, HPE.out]
          have := HT.out
          unfold TOw at this
          rw [tl_len, HPE.out] at this
          exact World.ownsRow.alloc this _
        case measure => simp [intOf]; omega
    · have : k = h.length := by omega
      subst this
      have HT : Hid (TOw w.heap.size wr (.slice ta (nums h key).length tc) (tl h (nums h key) (fun _ => 0))) := by have := hT; rw [tl_len] at this; exact this
      clear hT
      rw [show pre h key h.length = nums h key from rfl] at *
      generalize hns : nums h key = ns at *
      have HNS : Hid (nums h key = ns) := hns
      clear hns
      generalize hp : ns.length = p at *
      have HP : Hid (ns.length = p) := hp
      clear hp hpl
      go_wp2
      go_loopw [38, 8] (fun i _ wq => ∃ (k : Nat), i = .int .i64 k ∧ k ≤ p ∧ TOw w.heap.size wq (.slice ta p tc) (tl h ns (fun j => if j < k then ahM (nops h ns) j p else 0)) ∧ Below w.heap.size w wq) (fun i _ _ => p - (intOf i).toNat)
      case atStart => exact ⟨0, rfl, by omega, by have := HT.out; simpa using this, hB⟩
      case round =>
        obtain ⟨k, rfl, hk, hT2, hB2⟩ := hrel
        by_cases hlt2 : k < p
        · have HT2 : Hid (TOw w.heap.size _ (.slice ta p tc) _) := hT2
          have HB2 : Hid (Below w.heap.size w _) := hB2
          clear hT2 hB2
          go_wp2
          go_loopw [43] (fun i wq => ∃ (m : Nat), i = .int .i64 m ∧ m ≤ p ∧ TOw w.heap.size wq (.slice ta p tc) (tl h ns (fun j => if j < k then ahM (nops h ns) j p else if j = k then ahM (nops h ns) k m else 0)) ∧ Below w.heap.size w wq) (fun i _ => p - (intOf i).toNat)
          case atStart =>
            refine ⟨0, rfl, by omega, ?_, HB2.out⟩
            have := HT2.out
            rw [show (fun j => if j < k then ahM (nops h ns) j p else if j = k then ahM (nops h ns) k 0 else 0) = (fun j => if j < k then ahM (nops h ns) j p else 0) from funext fun j => by by_cases e : j < k <;> simp [e, ahM]]
            exact this
          case round =>

            obtain ⟨m, rfl, hm, hT3, hB3⟩ := hrel
            by_cases hlt3 : m < p
            · have hz3 := hB3.size
              obtain ⟨gg, rfl, hg1, hg2⟩ := row_ptr (N := w.heap.size) (by have := hT3; unfold TOw at this; rw [tl_len, HP.out] at this; exact this) (by omega)
              have hTp := hT3
              rw [show (Value.slice (some ⟨gg, 0, none⟩) p tc) = Value.slice (some ⟨gg, 0, none⟩) (tl h ns (fun j => if j < k then ahM (nops h ns) j p else if j = k then ahM (nops h ns) k m else 0)).length tc from by rw [tl_len, HP.out]] at hTp
              obtain ⟨⟨⟨c0, c1, c2, c3, c4, c5, c6, c7, c8, c9⟩, c10, c11, c12⟩, -⟩ := hTp.at (i := m) (by rw [tl_len, HP.out]; exact hlt3)
              obtain ⟨⟨⟨-, -, -, -, -, -, e6, -, -, -⟩, -, -, e12⟩, ef⟩ := hTp.at (i := k) (by rw [tl_len, HP.out]; exact hlt2)
              have ef12 := ef 12 (by omega)
              rw [tl_at h ns _ (by rw [HP.out]; exact hlt3)] at c0 c1 c2 c3 c4 c5 c6 c7 c8 c9 c10 c11 c12
              rw [tl_at h ns _ (by rw [HP.out]; exact hlt2)] at e6 e12
              rw [if_neg (by omega), if_pos rfl] at e12
              have HX := HO (nops h ns m)
              have hisah : isAh (nops h ns) k m = (decide ((nops h ns m).back ≠ 0) && decide ((nops h ns m).back < (nops h ns k).call)) := rfl
              have HNO : Hid (isAh (nops h ns) k m = false → ∀ w', Below wr.heap.size wr w' → TOw w.heap.size w' (.slice (some ⟨gg, 0, none⟩) p tc) (tl h ns (fun j => if j < k then ahM (nops h ns) j p else if j = k then ahM (nops h ns) k (m + 1) else 0))) := fun hno w' hb' => by
                have he : ahM (nops h ns) k (m + 1) = ahM (nops h ns) k m := by show (if _ then _ else _) = _; rw [if_neg (by rw [hno]; simp)]
                rw [he]
                exact row_below hT3 hb'
              have HYES : Hid (isAh (nops h ns) k m = true → ∀ w', Below wr.heap.size wr w' → TOw w.heap.size (w'.setCell ⟨gg, k * 13 + 12, none⟩ (.int .u64 ((ahM (nops h ns) k m ||| 2 ^ m : Nat) : Int))) (.slice (some ⟨gg, 0, none⟩) p tc) (tl h ns (fun j => if j < k then ahM (nops h ns) j p else if j = k then ahM (nops h ns) k (m + 1) else 0))) := fun hyes w' hb' => by
                have he : ahM (nops h ns) k (m + 1) = ahM (nops h ns) k m ||| 2 ^ m := by show (if _ then _ else _) = _; rw [if_pos hyes]
                rw [he]
                have h1 := row_below hT3 hb'
                rw [tl_len, HP.out] at h1
                have h2 := row_store h1 (k * 13 + 12) (.int .u64 ((ahM (nops h ns) k m ||| 2 ^ m : Nat) : Int))
                rw [tCells_set _ _ _ (by rw [tl_len, HP.out]; exact hlt2), tl_set _ _ _ _ _ (by rw [HP.out]; exact hlt2)] at h2
                unfold TOw
                rw [tl_len, HP.out]
                rw [tl_congr h ns (g := fun j => if j = k then ahM (nops h ns) k m ||| 2 ^ m else if j < k then ahM (nops h ns) j p else if j = k then ahM (nops h ns) k m else 0) (fun j _ => by
                  by_cases e : j = k
                  · subst e; simp
                  · simp [e])]
                exact h2
              rw [show oat h (ns.getD k 0) = nops h ns k from rfl] at e6
              rw [show oat h (ns.getD m 0) = nops h ns m from rfl] at c0 c1 c2 c3 c4 c5 c6 c7 c8 c9
              dsimp only at c0 c1 c2 c3 c4 c5 c6 c7 c8 c9 c10 c11 c12 e6 e12
              have HAL := ahM_lt (nops h ns) k m
              have hbmL := pow_le (show m ≤ 12 by omega)
              generalize hfm : (if m < k then ahM (nops h ns) m p else if m = k then ahM (nops h ns) k m else 0) = fm at *
              generalize hal : ahM (nops h ns) k m = al at *
              generalize nops h ns m = x at *
              generalize (nops h ns k).call = yc at *
              generalize ns.getD m 0 = nm at *
              generalize 2 ^ m = bm at *
              have hyl : gg < wr.heap.size := hg2
              clear hT3 hTp ef hal hfm
              unfold Lo.v Lo.box Lo.cells at HX
              unfold str at HX c3 c4 c5 c9
              have hX5 := heap_alloc_new wr (.cells (⟨x, nm, bm, fm⟩ : Tk).cells.toArray 77)
              have hO5 := opAt_tk hX5
              have HB5 : Hid (Below wr.heap.size wr (wr.alloc (.cells (⟨x, nm, bm, fm⟩ : Tk).cells.toArray 77))) := (Below.refl _ _).alloc (Nat.le_refl _) _
              have g6 := (HB5.out.cell (p := ⟨gg, k * 13 + 6, none⟩) hyl).trans e6
              have g12 := (HB5.out.cell (p := ⟨gg, k * 13 + 12, none⟩) hyl).trans e12
              have gf : (wr.alloc (.cells (⟨x, nm, bm, fm⟩ : Tk).cells.toArray 77)).frozen? ⟨gg, k * 13 + 12, none⟩ = false := (HB5.out.frozen (p := ⟨gg, k * 13 + 12, none⟩) hyl).trans ef12
              obtain ⟨W5, hW5⟩ : ∃ W5, wr.alloc (.cells (⟨x, nm, bm, fm⟩ : Tk).cells.toArray 77) = W5 := ⟨_, rfl⟩
              rw [hW5] at hO5 HB5 g6 g12 gf
              have hz5 : wr.heap.size < W5.heap.size := by rw [← hW5]; simp
              unfold Tk.cells str at hW5
              dsimp only at hW5
              obtain ⟨⟨d0, d1, d2, d3, d4, d5, d6, d7, d8, d9⟩, -, d11, -⟩ := hO5
              unfold str at d3 d4 d5 d9
              have HX' : ∀ w, Calls Try.prog 33 _ w fun e w' => e = .returned (.bool (decide (x.back = 0))) ∧ Below w.heap.size w w' := fun w => (HX w).mono fun e w' ⟨he, hw⟩ => ⟨he, by rw [hw]; exact (Below.refl _ _).alloc (Nat.le_refl _) _⟩
              have f0 := fun z : Cw W5 => z.cell d0
              have f1 := fun z : Cw W5 => z.cell d1
              have f2 := fun z : Cw W5 => z.cell d2
              have f3 := fun z : Cw W5 => z.cell d3
              have f4 := fun z : Cw W5 => z.cell d4
              have f5 := fun z : Cw W5 => z.cell d5
              have f6 := fun z : Cw W5 => z.cell d6
              have f7 := fun z : Cw W5 => z.cell d7
              have f8 := fun z : Cw W5 => z.cell d8
              have f9 := fun z : Cw W5 => z.cell d9
              have f11 := fun z : Cw W5 => z.cell d11
              have f16 := fun z : Cw W5 => z.cell g6
              have f12 := fun z : Cw W5 => z.cell g12
              have ff := fun z : Cw W5 => (z.b.frozen (p := ⟨gg, k * 13 + 12, none⟩) (show gg < _ by omega)).trans gf
              haveI hne5 : Nonempty (Cw W5) := ⟨⟨W5, Below.refl _ _⟩⟩
              have HBZ : Hid (∀ z : Cw W5, Below wr.heap.size wr z.w) := fun z => HB5.out.trans (z.b.mono (by omega))
              clear hX5 e6 e12 ef12 d0 d1 d2 d3 d4 d5 d6 d7 d8 d9 d11 g6 g12 gf HX
              by_cases hop : x.back = 0
              · have e0 : decide (x.back = 0) = true := by simpa using hop
                have HIS : Hid (isAh (nops h ns) k m = false) := by show _ = _; rw [hisah]; simp [hop]
                rw [e0] at HX'
                clear hop hisah
                go_wp2
                try rw [hW5]
                clear hW5 c0 c1 c2 c3 c4 c5 c6 c7 c8 c9 c10 c11 c12
                refine wp_region_cw (W := W5) (by kernel_rfl) (by kernel_rfl) (Below.refl _ _) ?_
                repeat (go_big_quiet_step (exact Cw.calls _ HX'))
                refine wpQuiet_nil ?_
                rintro _ ⟨z5, rfl⟩
                go_wp2
                go_roundw
                case rel => exact ⟨m + 1, by simp, by omega, HNO.out HIS.out _ (HBZ.out z5), hB3.trans ((HBZ.out z5).mono hz3)⟩
                case measure => simp [intOf]; omega
              · have e0 : decide (x.back = 0) = false := by simpa using hop
                rw [e0] at HX'
                by_cases hlt5 : x.back < yc
                · have HIS : Hid (isAh (nops h ns) k m = true) := by show _ = _; rw [hisah]; simp [hop, hlt5]
                  clear hop hisah
                  go_wp2
                  try rw [hW5]
                  clear hW5 c0 c1 c2 c3 c4 c5 c6 c7 c8 c9 c10 c11 c12
                  refine wp_region_cw (W := W5) (by kernel_rfl) (by kernel_rfl) (Below.refl _ _) ?_
                  repeat (go_big_quiet_step (exact Cw.calls _ HX'))
                  refine wpQuiet_nil ?_
                  rintro _ ⟨z5, rfl⟩
                  go_wp2
                  have f11' := f11 z5
                  have f12' := f12 z5
                  have ff' := ff z5
                  generalize hw5 : z5.w = w5 at *
                  clear f0 f1 f2 f3 f4 f5 f6 f7 f8 f9 f11 f12 ff f16 HX'
                  have hor : bits .or .u64 (al : Int) (bm : Int) = ((al ||| bm : Nat) : Int) := u64_or_nat _ _ (by omega) (by omega)
                  have HB5' : Hid (Below wr.heap.size wr w5) := by have := HBZ.out z5; rw [hw5] at this; exact this
                  have HT5 : Hid (TOw _ _ _ _) := HYES.out HIS.out w5 HB5'.out
                  go_region
                  all_goals (
                    try rw [hor]
                    go_wp2
                    go_roundw
                    case rel => exact ⟨m + 1, by simp, by omega, HT5.out, ((hB3.trans (HB5'.out.mono hz3)).setCell (p := ⟨gg, k * 13 + 12, none⟩) hg1 _).drew⟩
                    case measure => simp [intOf]; omega)
                · have HIS : Hid (isAh (nops h ns) k m = false) := by show _ = _; rw [hisah]; simp [hlt5]
                  clear hop hisah
                  go_wp2
                  try rw [hW5]
                  clear hW5 c0 c1 c2 c3 c4 c5 c6 c7 c8 c9 c10 c11 c12
                  refine wp_region_cw (W := W5) (by kernel_rfl) (by kernel_rfl) (Below.refl _ _) ?_
                  repeat (go_big_quiet_step (exact Cw.calls _ HX'))
                  refine wpQuiet_nil ?_
                  rintro _ ⟨z5, rfl⟩
                  go_wp2
                  go_roundw
                  case rel => exact ⟨m + 1, by simp, by omega, HNO.out HIS.out _ (HBZ.out z5), hB3.trans ((HBZ.out z5).mono hz3)⟩
                  case measure => simp [intOf]; omega
            · have : m = p := by omega
              subst this
              have HT3 : Hid (TOw w.heap.size _ (.slice ta m tc) _) := hT3
              clear hT3
              go_wp2
              go_roundw
              case rel =>
                refine ⟨k + 1, by simp, by omega, ?_, hB3⟩
                rw [tl_congr h ns (g := fun j => if j < k then ahM (nops h ns) j m else if j = k then ahM (nops h ns) k m else 0) (fun j _ => by
                  by_cases e : j = k
                  · subst e; simp
                  · by_cases e2 : j < k
                    · simp [e2, show j < k + 1 by omega]
                    · simp [e2, e, show ¬ j < k + 1 by omega])]
                exact HT3.out
              case measure => simp [intOf]; omega
        · have : k = p := by omega
          subst this
          have HT2 : Hid (TOw w.heap.size _ (.slice ta k tc) _) := hT2
          clear hT2
          go_wp2
          go_ret
          refine ⟨_, rfl, ?_, hB2⟩
          unfold tasks
          rw [HNS.out, HP.out]
          have := HT2.out
          rw [tl_congr h ns (g := fun j => ahM (nops h ns) j k) (fun j hj => by rw [HP.out] at hj; simp [hj])] at this
          exact this
end Go.Proofs.Ytbcnpdpdflkanaa
