/-
  The search: a recursion that is cut off as soon as an order stands.
-/
import Derived.Test.YtbcnpdpdflkanaaRs
namespace Go.Proofs.Ytbcnpdpdflkanaa
open Go.RowKit

/-- How many may be marked as failed. -/
def cst : Nat → Nat
  | 0 => 1
  | m + 1 => 1 + 12 * cst m
/-- What is marked as failed fails. -/
def Fd (h : List Lo) (ns : List Nat) (D : DataW Unit) : Prop := ∀ d th v, d < 4096 → v.length ≤ maxLen → Maps.has D (kl d th v) = true → IsL (L h ns) d.testBit th v none
def numsOf (ns : List Nat) (l : List Nat) : List Nat := l.map fun i => ns.getD i 0
def gone (ns : List Nat) : Option (List Nat) → List Nat
  | some l => numsOf ns l
  | none => []
/-- The order lies where it lay, or in a block that is new. -/
def Near (w : World) (ov ov' : Value) : Prop := ov'.ownBlock = ov.ownBlock ∨ ∃ g, ov'.ownBlock = some g ∧ w.heap.size ≤ g

theorem fine_left {ops : List Lo} {D : Nat → Bool} (h : left ops.length D = 0) : fineB ops D = true := by
  unfold fineB
  rw [List.all_eq_true]
  intro k hk
  have hk' := List.mem_range.1 hk
  cases hD : D k
  · have := left_pos hD hk'; omega
  · simp
theorem cst_succ {m : Nat} (h : 1 ≤ m) : cst m = 1 + 12 * cst (m - 1) := by
  obtain ⟨m, rfl⟩ : ∃ q, m = q + 1 := ⟨m - 1, by omega⟩
  rfl

theorem step_val {th : Bool} {v : Bs} {x : Lo} (hv : v.length ≤ maxLen) (hx : x.val.length ≤ maxLen) : (step th v x).2.1.length ≤ maxLen := by
  unfold step
  split
  · split
    · exact hv
    · simp
  split
  · exact hx
  split
  · simp
  split
  · split
    · split
      · exact hx
      · exact hv
    · simp
  · show (if th then v else []).length ≤ maxLen
    split
    · exact hv
    · simp

theorem Near.out {c : Cx} {ov ov1 : Value} {w w1 w2 : World} (hN : Near w ov ov1) (h1 : Out (Xo c ov) w w1) (h2 : Out (Xo c ov1) w1 w2) : Out (Xo c ov) w w2 :=
  h1.trans h2 (fun i hi hl => by
    rcases hi with e | e | e
    · exact .inl e
    · exact .inr (.inl e)
    · rcases hN with h | ⟨g, hg, hle⟩
      · exact .inr (.inr (h ▸ e))
      · rw [e] at hg; cases hg; omega)
theorem Near.trans {ov ov1 ov2 : Value} {w w1 : World} (h1 : Near w ov ov1) (h2 : Near w1 ov1 ov2) (hz : w.heap.size ≤ w1.heap.size) : Near w ov ov2 := by
  rcases h2 with e | ⟨g, hg, hle⟩
  · rcases h1 with e1 | ⟨g, hg, hle⟩
    · exact .inl (e.trans e1)
    · exact .inr ⟨g, e.trans hg, hle⟩
  · exact .inr ⟨g, hg, by omega⟩
theorem row_not {N n : Nat} {w : World} {v : Value} {xs : List Value} (h : w.ownsRow N 3 1 v n xs) {R : Nat} {cs : Array Value} {t : TypeId} {z : Nat × Nat} (hR : w.heap[R]? = some (.cells cs t z)) (ht : t ≠ 3) : v.ownBlock ≠ some R := by
  rcases h.2 with ⟨rfl, _⟩ | ⟨g, cap, cur, rfl, _, hgb, _⟩
  · simp [Value.ownBlock]
  · intro e'
    obtain rfl : g = R := by simpa [Value.ownBlock] using e'
    rw [hR] at hgb
    simp at hgb
    exact ht hgb.2.1
theorem push_facts {c : Cx} {ts : List Tk} {must : Nat} {ord : List Nat} {ov v' : Value} {n x : Nat} {D : DataW Unit} {w w' : World} (hS : Sx c ts must w) (hD : Dy c ord ov n D w) (hr : w'.ownsRow c.B 3 1 v' (ord.length + 1) (ord.map encI ++ [encI x])) (hg : w.grownBy w' ov.ownBlock) :
    w'.cell? ⟨c.bo, 0, none⟩ = some ov ∧ w'.frozen? ⟨c.bo, 0, none⟩ = false ∧ Sx c ts must (w'.setCell ⟨c.bo, 0, none⟩ v') ∧ Dy c (ord ++ [x]) v' n D (w'.setCell ⟨c.bo, 0, none⟩ v') ∧ Out (Xo c ov) w (w'.setCell ⟨c.bo, 0, none⟩ v') ∧
    (w'.setCell ⟨c.bo, 0, none⟩ v').cell? ⟨c.br, 0, none⟩ = some c.fn ∧ ∀ b, b ≠ c.bo → b ≠ c.M → ov.ownBlock ≠ some b → ∀ o u, w.cell? ⟨b, o, none⟩ = some u → (w'.setCell ⟨c.bo, 0, none⟩ v').cell? ⟨b, o, none⟩ = some u := by
  have hO : Out (fun i => ov.ownBlock = some i) w w' := Out.grown hg (fun j e => e)
  have nb : ∀ b, b < c.B → ¬ ov.ownBlock = some b := fun b hb e => by have := (hD.ow.lt b e).1; omega
  obtain ⟨h4, h5⟩ := hD.push hS.ok hr hg
  have hS4 := hS.keep (h5.mono (fun i hi => Xo.z hD hi))
  refine ⟨out_cell hO hD.co (nb _ hS.ok.lo), (out_frozen hO (World.block_lt_of_cell? w _ hD.co) (nb _ hS.ok.lo)).trans hD.fo, hS4, h4, h5, hS4.cr, fun b h1 h2 h3 o u hc => out_cell h5 hc (fun hx => ?_)⟩
  rcases hx with e | e | e
  · exact h1 e
  · exact h2 e
  · exact h3 e

theorem news1 (w : World) (o : Obj) (x : Nat) (τ : TypeId) : ∀ j u, [encI x][j]? = some u → ((w.alloc o).alloc (.cells #[encI x] τ)).cell? ((⟨w.heap.size + 1, 0, none⟩ : Addr).add j) = some u := by
  have := news_at (w.alloc o) #[encI x] τ
  simpa using this
theorem next_cells {w1 w4 : World} {x0 x1 x2 : Value} {o' : Obj} {bo M : Nat} {ov : Value} (g7 : ∀ b, b ≠ bo → b ≠ M → ov.ownBlock ≠ some b → ∀ o u, ((w1.alloc (.cells #[x0, x1, x2] 73)).alloc o').cell? ⟨b, o, none⟩ = some u → w4.cell? ⟨b, o, none⟩ = some u) (h1 : w1.heap.size ≠ bo) (h2 : w1.heap.size ≠ M) (h3 : ov.ownBlock ≠ some w1.heap.size) :
    w4.cell? ⟨w1.heap.size, 0, none⟩ = some x0 ∧ w4.cell? ⟨w1.heap.size, 1, none⟩ = some x1 ∧ w4.cell? ⟨w1.heap.size, 2, none⟩ = some x2 := by
  have hh : ((w1.alloc (.cells #[x0, x1, x2] 73)).alloc o').heap[w1.heap.size]? = some (.cells #[x0, x1, x2] 73 (0, 0)) := by
    rw [Below.heap_alloc _ _ _ (by simp)]; exact heap_alloc_new _ _
  obtain ⟨⟨a, b, c⟩, -⟩ := cells3 hh
  exact ⟨g7 _ h1 h2 h3 _ _ a, g7 _ h1 h2 h3 _ _ b, g7 _ h1 h2 h3 _ _ c⟩
theorem round_facts {c : Cx} {ts : List Tk} {must : Nat} {ord : List Nat} {ov : Value} {n : Nat} {D : DataW Unit} {w w1 : World} {t : Tk} (hS : Sx c ts must w) (hD : Dy c ord ov n D w) (hB : Below (w.alloc (.cells t.cells.toArray 77)).heap.size (w.alloc (.cells t.cells.toArray 77)) w1) :
    (w1.cell? ⟨c.bo, 0, none⟩ = some ov ∧ w1.cell? ⟨w.heap.size, 10, none⟩ = some (.int .i64 t.num) ∧ (∀ (o : Obj) (j : Nat), (w1.alloc o).cell? ⟨c.bo, j, none⟩ = w1.cell? ⟨c.bo, j, none⟩) ∧ (∀ (o : Obj) (j : Nat), (w1.alloc o).cell? ⟨w.heap.size, j, none⟩ = w1.cell? ⟨w.heap.size, j, none⟩) ∧
      (∀ (o o' : Obj) (j : Nat), ((w1.alloc o).alloc o').cell? ⟨c.bo, j, none⟩ = w1.cell? ⟨c.bo, j, none⟩) ∧ c.B ≤ w1.heap.size) ∧ Below w.heap.size w w1 ∧ w.heap.size < w1.heap.size := by
  have hw : Below w.heap.size w w1 := ((Below.refl _ w).alloc (Nat.le_refl _) _).trans (hB.mono (by simp))
  have hs := hB.size
  simp only [World.size_alloc] at hs
  have hc := (hD.below hw).co
  have hb := World.block_lt_of_cell? w1 _ hc
  have h10 := (hB.cell (p := ⟨w.heap.size, 10, none⟩) (by simp)).trans (opAt_tk (heap_alloc_new w (.cells t.cells.toArray 77))).2.1
  exact ⟨⟨hc, h10, past1 hb, past1 (by omega), (past2 hb).2.1, Nat.le_trans hS.size hw.size⟩, hw, by omega⟩

/-- What a search answers. -/
def RP (h : List Lo) (ns : List Nat) (c : Cx) (m : Nat) (w : World) (d : Nat) (th : Bool) (v : Bs) (ord : List Nat) (ov : Value) (n : Nat) (e : Ending) (w' : World) : Prop :=
  ∃ (r : Option (List Nat)) (ov' : Value) (n' : Nat) (D' : DataW Unit),
    IsL (L h ns) d.testBit th v r ∧ e = .returned (.bool r.isSome) ∧ Sx c (tl h ns fun j => ahM (nops h ns) j ns.length) (musM (nops h ns) ns.length) w' ∧ Dy c (ord ++ gone ns r) ov' n' D' w' ∧ Fd h ns D' ∧ n' ≤ n + cst m ∧ Out (Xo c ov) w w' ∧ Near w ov ov'

/-- The contract of the search with m tasks left. -/
def RC (h : List Lo) (ns : List Nat) (c : Cx) (m : Nat) : Prop := ∀ (w : World) (d : Nat) (th : Bool) (v : Bs) (ord : List Nat) (ov : Value) (n : Nat) (D : DataW Unit),
  Sx c (tl h ns fun j => ahM (nops h ns) j ns.length) (musM (nops h ns) ns.length) w → Dy c ord ov n D w → Fd h ns D → d < 2 ^ ns.length → v.length ≤ maxLen → left ns.length d.testBit ≤ m → n + cst m ≤ 140737488355328 → ord.length + m ≤ 1000 →
  Calls Try.prog 38 #[spV d th v, ptr c.bm, ptr c.bf, ptr c.bt, ptr c.bo, ptr c.br] w (RP h ns c m w d th v ord ov n)

set_option maxRecDepth 100000 in
set_option maxHeartbeats 8000000 in
theorem reach_step (h : List Lo) (ns : List Nat) (hp : ns.length ≤ 12) (hns : ∀ i ∈ ns, i < 1000) (hok : ∀ j, (nops h ns j).val.length ≤ maxLen) (c : Cx) (m : Nat)
    (HR : Hid (m = 0 ∨ RC h ns c (m - 1))) : RC h ns c m := by
  intro w d th v ord ov n D hS hD hF hd hv hm hn hol
  have hd4 : d < 4096 := Nat.lt_of_lt_of_le hd (pow_le hp)
  have hfine := fine_mask h ns d
  have hml : musM (nops h ns) ns.length < 4096 := Nat.lt_of_lt_of_le (musM_lt _ _) (pow_le hp)
  have hand : bits .and .u64 (d : Int) ((musM (nops h ns) ns.length : Nat) : Int) = ((d &&& musM (nops h ns) ns.length : Nat) : Int) := u64_and_nat _ _ (by omega) (by omega)
  obtain ⟨cm, cf, ct, cr⟩ := (⟨hS.cm, hS.cf, hS.ct, hS.cr⟩ : _ ∧ _ ∧ _ ∧ _)
  have HS : Hid (Sx c (tl h ns fun j => ahM (nops h ns) j ns.length) (musM (nops h ns) ns.length) w) := hS
  have HD : Hid (Dy c ord ov n D w) := hD
  have HFD : Hid (Fd h ns D) := hF
  have HOK := hS.ok
  have hbb := hS.size
  have q1 := past1 (World.block_lt_of_cell? w _ cm)
  have q2 := past1 (World.block_lt_of_cell? w _ cf)
  have hB1 : ∀ o : Obj, Below w.heap.size w (w.alloc o) := fun o => (Below.refl _ w).alloc (Nat.le_refl _) o
  by_cases hf : d &&& musM (nops h ns) ns.length = musM (nops h ns) ns.length
  · have HFI : Hid (fineB (L h ns) d.testBit = true) := by show _ = _; rw [hfine]; simpa using hf
    rw [hf] at hand
    have HPO : Hid (∀ o : Obj, RP h ns c m w d th v ord ov n (.returned (.bool true)) (w.alloc o)) := fun o => ⟨some [], ov, n, D, isL_fine HFI.out, rfl, HS.out.below (hB1 o), by show Dy c (ord ++ []) _ _ _ _; rw [List.append_nil]; exact HD.out.below (hB1 o), HFD.out, by omega, Out.of_below (hB1 o), .inl rfl⟩
    clear hfine hf hS hD hF hm hn hol hB1
    generalize hmu : musM (nops h ns) ns.length = mu at *
    unfold spV ptr str
    go_enter Try.func38, Try.ntmps38
    go_wp2
    go_ret
    exact HPO.out _
  · have hfb : fineB (L h ns) d.testBit = false := by rw [hfine]; simpa using hf
    have hne : (((d &&& musM (nops h ns) ns.length : Nat) : Int) == ((musM (nops h ns) ns.length : Nat) : Int)) = false := by
      rw [beq_eq_false_iff_ne]; intro e; exact hf (by omega)
    have hm1 : 1 ≤ m := by
      rcases Nat.eq_zero_or_pos m with e | e
      · have := fine_left (ops := L h ns) (D := d.testBit) (by rw [L_len]; omega)
        rw [this] at hfb; cases hfb
      · exact e
    have hkey := kl_eq (show d < 18446744073709551616 by omega) th hv
    have hmp := hD.mp
    clear hfine hf
    by_cases hha : Maps.has D (kl d th v) = true
    · have HPO : Hid (∀ o o' : Obj, RP h ns c m w d th v ord ov n (.returned (.bool false)) ((w.alloc o).alloc o')) := fun o o' => ⟨none, ov, n, D, hF d th v hd4 hv hha, rfl, HS.out.below (below2 w o o'), by show Dy c (ord ++ []) _ _ _ _; rw [List.append_nil]; exact HD.out.below (below2 w o o'), HFD.out, by omega, Out.of_below (below2 w o o'), .inl rfl⟩
      clear hS hD hF hm hn hol hB1 hfb
      generalize hmu : musM (nops h ns) ns.length = mu at *
      unfold spV ptr str at *
      generalize d &&& mu = dm at *
      go_enter Try.func38, Try.ntmps38
      go_wp2_with (first
        | (at_lookup; refine wpList_lookup_own_unit _ rfl _ _ 70 rfl 73 74 keyedS Try.underlying70 (zero74 _) c.M n D rfl (hmp.alloc _) _ _ rfl hkey ?_; rw [hha]))
      go_ret
      exact HPO.out _ _
    · have hha' : Maps.has D (kl d th v) = false := by simpa using hha
      clear hha
      generalize hmu : musM (nops h ns) ns.length = mu at *
      have HMU : Hid (musM (nops h ns) ns.length = mu) := hmu
      clear hmu
      unfold spV ptr str at *
      generalize d &&& mu = dm at *
      obtain ⟨ta, tc, htv, -, -⟩ := row_shape hS.tk
      rw [tl_len] at htv
      have HTV : Hid (c.tv = _) := htv
      rw [htv] at ct
      have q3 := (past2 (World.block_lt_of_cell? w _ ct)).2.1
      generalize hpe : ns.length = p at *
      have HP : Hid (ns.length = p) := hpe
      have HW0 : Hid (∀ o o' : Obj, Sx c (tl h ns fun j => ahM (nops h ns) j p) mu ((w.alloc o).alloc o') ∧ Dy c ord ov n D ((w.alloc o).alloc o') ∧ Out (Xo c ov) w ((w.alloc o).alloc o')) := fun o o' => ⟨hS.below (below2 w o o'), hD.below (below2 w o o'), Out.of_below (below2 w o o')⟩
      have HKE : Hid (keyOf Try.prog 73 _ = _) := hkey
      clear hpe hS hD hF HS HD hB1 htv
      go_enter Try.func38, Try.ntmps38
      go_wp2_with (first
        | (at_lookup; refine wpList_lookup_own_unit _ rfl _ _ 70 rfl 73 74 keyedS Try.underlying70 (zero74 _) c.M n D rfl (hmp.alloc _) _ _ rfl hkey ?_; rw [hha']))
      have hs0 := HW0.out (.cells #[.int .u64 (d : Int), .bool th, .string ⟨v.toArray⟩] 73) (.cells #[] 74)
      have hb0 : ((w.alloc (.cells #[.int .u64 (d : Int), .bool th, .string ⟨v.toArray⟩] 73)).alloc (.cells #[] 74)).heap[w.heap.size]? = some (.cells #[.int .u64 (d : Int), .bool th, .string ⟨v.toArray⟩] 73 (0, 0)) := by
        rw [Below.heap_alloc _ _ _ (by simp)]; exact heap_alloc_new _ _
      have HS0 : Hid (Sx _ _ _ _ ∧ _ ∧ _) := hs0
      have HB0 : Hid (_ = some _) := hb0
      clear hs0 hb0 hkey hmp cm cf ct cr q1 q2 q3 hand
      go_loopw [29] (fun i wr => ∃ (k : Nat) (ov1 : Value) (n1 : Nat) (D1 : DataW Unit), i = .int .i64 k ∧ k ≤ p ∧ Past (L h ns) d.testBit th v k ∧ Sx c (tl h ns fun j => ahM (nops h ns) j p) mu wr ∧ Dy c ord ov1 n1 D1 wr ∧ Fd h ns D1 ∧ n1 ≤ n + k * cst (m - 1) ∧ Out (Xo c ov) w wr ∧ Near w ov ov1 ∧ wr.heap[w.heap.size]? = some (.cells #[.int .u64 (d : Int), .bool th, .string ⟨v.toArray⟩] 73 (0, 0))) (fun i _ => p - (intOf i).toNat)
      case atStart => exact ⟨0, ov, n, D, rfl, by omega, past0, HS0.out.1, HS0.out.2.1, HFD.out, by omega, HS0.out.2.2, .inl rfl, HB0.out⟩
      case round =>
        obtain ⟨k, ov1, n1, D1, rfl, hk, hpast, hS1, hD1, hF1, hn1, hO1, hN1, hb6⟩ := hrel
        have hz1 := hO1.size
        have hbl : w.heap.size < wr.heap.size := (Array.getElem?_eq_some_iff.1 hb6).1
        obtain ⟨⟨u0, u1, u2⟩, -⟩ := cells3 hb6
        by_cases hlt : k < p
        · have hTK := hS1.tk
          rw [HTV.out] at hTK
          obtain ⟨gg, rfl, hg1, hg2⟩ := row_ptr (N := c.N) (by have := hTK; unfold TOw at this; rw [tl_len, HP.out] at this; exact this) (by omega)
          rw [show (Value.slice (some ⟨gg, 0, none⟩) p tc) = Value.slice (some ⟨gg, 0, none⟩) (tl h ns (fun j => ahM (nops h ns) j p)).length tc from by rw [tl_len, HP.out]] at hTK
          obtain ⟨⟨⟨c0, c1, c2, c3, c4, c5, c6, c7, c8, c9⟩, c10, c11, c12⟩, -⟩ := TOw.at hTK (i := k) (by rw [tl_len, HP.out]; exact hlt)
          rw [tl_at h ns _ (by rw [HP.out]; exact hlt)] at c0 c1 c2 c3 c4 c5 c6 c7 c8 c9 c10 c11 c12
          rw [show oat h (ns.getD k 0) = nops h ns k from rfl] at c0 c1 c2 c3 c4 c5 c6 c7 c8 c9
          dsimp only at c0 c1 c2 c3 c4 c5 c6 c7 c8 c9 c10 c11 c12
          have hahL : ahM (nops h ns) k p < 4096 := Nat.lt_of_lt_of_le (ahM_lt _ _ _) (pow_le hp)
          have hbm := pow_le (show k ≤ 12 by omega)
          have hfn := fol_next h ns (by rw [HP.out]; exact hp) d hd4 th v (j := k) (by rw [HP.out]; exact hlt)
          rw [HP.out] at hfn
          have HFO := follow_any ⟨nops h ns k, ns.getD k 0, 2 ^ k, ahM (nops h ns) k p⟩ d th v
          rw [hfn] at HFO
          dsimp only at HFO
          have hLk := L_at h ns (j := k) (by rw [HP.out]; exact hlt)
          have hnk : ns.getD k 0 < 1000 := by
            rw [List.getD_eq_getElem?_getD, List.getElem?_eq_getElem (show k < ns.length by rw [HP.out]; exact hlt)]
            exact hns _ (List.getElem_mem _)
          have hxv := hok k
          have HTU := test_upd d k
          have hLL : (L h ns).length = p := by rw [L_len, HP.out]
          have HFOl : Hid (nextB (L h ns) d.testBit th v k = false → Past (L h ns) d.testBit th v (k + 1)) := fun hnx => hpast.skip hnx
          have HNX : Hid (nextB (L h ns) d.testBit th v k = true → left p (d ||| 2 ^ k).testBit ≤ m - 1 ∧ (d ||| 2 ^ k) < 2 ^ p ∧ (step th v (nops h ns k)).2.1.length ≤ maxLen) := fun hnx => by
            refine ⟨?_, Nat.or_lt_two_pow hd (Nat.pow_lt_pow_right (by omega) hlt), step_val hv hxv⟩
            have := left_upd (nextB_not hnx) p hlt
            rw [HTU]; omega
          have HSO : Hid (∀ l, nextB (L h ns) d.testBit th v k = true → IsL (L h ns) (d ||| 2 ^ k).testBit (step th v (nops h ns k)).1 (step th v (nops h ns k)).2.1 (some l) → IsL (L h ns) d.testBit th v (some (k :: l))) := fun l hnx hl => by
            rw [HTU] at hl
            rw [← hLk] at hl
            exact hpast.some hfb (by omega) hnx hl
          have HNO : Hid (IsL (L h ns) (d ||| 2 ^ k).testBit (step th v (nops h ns k)).1 (step th v (nops h ns k)).2.1 none → Past (L h ns) d.testBit th v (k + 1)) := fun hl => by
            rw [HTU] at hl
            rw [← hLk] at hl
            exact hpast.no hl
          have HGO : Hid (∀ l, gone ns (some (k :: l)) = ns.getD k 0 :: gone ns (some l)) := fun l => rfl
          clear hLk HTU hfn hpast hTK
          have hwr : ∀ o : Obj, Below wr.heap.size wr (wr.alloc o) := fun o => (Below.refl _ wr).alloc (Nat.le_refl _) o
          generalize hstp : step th v (nops h ns k) = r at *
          obtain ⟨r1, r2, r3⟩ := r
          dsimp only at *
          generalize nops h ns k = x at *
          generalize ns.getD k 0 = nm at *
          generalize hbme : 2 ^ k = bm at *
          generalize ahM (nops h ns) k p = ak at *
          generalize hnx : nextB (L h ns) d.testBit th v k = nx at *
          have HS1 : Hid (Sx _ _ _ wr) := hS1
          have HD1 : Hid (Dy _ _ _ _ _ wr) := hD1
          have HF1 : Hid (Fd h ns D1) := hF1
          have HO1 : Hid (Out (Xo c ov) w wr) := hO1
          have HN1 : Hid (Near w ov ov1) := hN1
          have HB6 : Hid (_ = some _) := hb6
          clear hS1 hD1 hF1 hO1 hN1 hb6 hstp hbme hnx
          unfold Tk.v spV str at HFO
          unfold str at c3 c4 c5 c9
          dsimp only at HFO
          have q6 := past1 hbl
          cases nx with
          | false =>
            simp only [Bool.false_eq_true, if_false] at HFO
            go_wp2_with (first
              | (go_at_call 39; refine (HFO _ hd4 hbm hahL).mono ?_; rintro e w1 ⟨rfl, hB1⟩))
            have hB2 := ((hwr _).trans (hB1.mono (by simp))).alloc (by have := hB1.size; simp at this; omega) (.cells #[.int .u64 0, .bool false, .string ⟨#[]⟩] 73)
            exact ⟨⟨k + 1, ov1, n1, D1, by simp, by omega, HFOl.out (by simp), HS1.out.below hB2, HD1.out.below hB2, HF1.out, Nat.le_trans hn1 (Nat.add_le_add_left (Nat.mul_le_mul_right _ (by omega)) _), HO1.out.trans (Out.of_below (X := Xo c ov) hB2) (fun i hi _ => hi), HN1.out, (hB2.block _ hbl).trans HB6.out⟩, by simp [intOf]; omega⟩
          | true =>
            simp only [if_true] at HFO
            obtain ⟨oa, oc, hovs, -, -⟩ := row_shape HD1.out.ow
            subst hovs
            obtain ⟨hx1, hx2, hx3⟩ := HNX.out (by simp)
            have HRC : Hid (∀ (w : World) (d : Nat) (th : Bool) (v : Bs) (ord : List Nat) (ov : Value) (n : Nat) (D : DataW Unit), Sx c (tl h ns fun j => ahM (nops h ns) j p) mu w → Dy c ord ov n D w → Fd h ns D → d < 2 ^ p → v.length ≤ maxLen → left p d.testBit ≤ m - 1 → n + cst (m - 1) ≤ 140737488355328 → ord.length + (m - 1) ≤ 1000 →
                Calls Try.prog 38 #[spV d th v, ptr c.bm, ptr c.bf, ptr c.bt, ptr c.bo, ptr c.br] w (RP h ns c (m - 1) w d th v ord ov n)) := by
              have hRC := HR.out.resolve_left (by omega)
              unfold RC at hRC
              rw [HP.out, HMU.out] at hRC
              exact hRC
            clear HNX
            have hcst : (k + 1) * cst (m - 1) + 1 ≤ cst m := by
              rw [cst_succ hm1]
              have := Nat.mul_le_mul_right (cst (m - 1)) (show k + 1 ≤ 12 by omega)
              omega
            have hcs2 : (k + 1) * cst (m - 1) = k * cst (m - 1) + cst (m - 1) := by rw [Nat.add_mul]; omega
            have HN3 : Hid (n1 + cst (m - 1) ≤ 140737488355328 ∧ n1 + cst (m - 1) ≤ n + (k + 1) * cst (m - 1) ∧ n + (k + 1) * cst (m - 1) ≤ n + cst m) := ⟨by omega, by omega, by omega⟩
            clear hcst hcs2
            go_wp2_with (first
              | (go_at_call 39; refine (HFO _ hd4 hbm hahL).mono ?_; rintro e w1 ⟨rfl, hB1⟩; obtain ⟨⟨a1, a2, a3, a4, a5, a6⟩, hw1, hz11⟩ := round_facts (t := ⟨x, nm, bm, ak⟩) HS1.out HD1.out hB1; have HW1 : Hid (Below wr.heap.size wr w1) := hw1; clear hw1 hB1)
              | (at_builtin; refine wpList_app tyI rfl _ _ rfl c.B _ ord.length (ord.map encI) ⟨w1.heap.size + 1, 0, none⟩ 1 1 [encI nm] rfl (World.ownsRow.alloc (World.ownsRow.alloc (HD1.out.below HW1.out).ow _) _) rfl rfl (news1 _ _ _ _) (by intro u hu; cases List.mem_singleton.1 hu; rfl) (by omega) (by simp; omega) ?_; intro v3 w3 p1 p2 p3; obtain ⟨sa, sc, hv3, -, -⟩ := row_shape p1; subst hv3; obtain ⟨g1, g2, g3, g4, g5, g6, g7⟩ := push_facts ((HS1.out.below HW1.out).below (below2 w1 _ _)) ((HD1.out.below HW1.out).below (below2 w1 _ _)) p1 p2; obtain ⟨t0, t1, t2⟩ := next_cells g7 (by have := HOK.lo; omega) (by have := HOK.lM; omega) (fun e => by have := ((HD1.out.below HW1.out).ow.lt _ e).2; omega); unfold Cx.fn ptr at g6; have HG3 : Hid (Sx _ _ _ _) := g3; have HG4 : Hid (Dy _ _ _ _ _ _) := g4; have HG5 : Hid (Out _ _ _) := g5; have HP3 : Hid (_ ∨ _) := p3; clear g3 g4 g5 g7 p1 p2 p3))
            have hNr : Near w ov (.slice sa (ord.length + 1) sc) := HN1.out.trans (w1 := wr) (by
              rcases HP3.out with e | e
              · exact .inl e
              · exact .inr ⟨_, e, by simp; omega⟩) hz1
            have HNR : Hid (Near w ov (.slice sa (ord.length + 1) sc)) := hNr
            have hOb : Out (Xo c ov) w (w3.setCell ⟨c.bo, 0, none⟩ (.slice sa (ord.length + 1) sc)) := HN1.out.out ((HO1.out.trans (Out.of_below (X := Xo c ov) HW1.out) (fun i hi _ => hi)).trans (Out.of_below (X := Xo c ov) (below2 w1 _ _)) (fun i hi _ => hi)) HG5.out
            have HOB : Hid (Out (Xo c ov) w _) := hOb
            have hz4 := HG5.out.size
            simp only [World.size_alloc] at hz4
            have hnb : (Value.slice oa ord.length oc).ownBlock ≠ some w.heap.size := row_not HD1.out.ow HB6.out (by decide)
            have hb4 : (w3.setCell ⟨c.bo, 0, none⟩ (.slice sa (ord.length + 1) sc)).heap[w.heap.size]? = some (.cells #[.int .u64 (d : Int), .bool th, .string ⟨v.toArray⟩] 73 (0, 0)) := by
              refine (HG5.out.block _ (by simp; omega) (fun hx => ?_)).trans (((below2 w1 _ _).block _ (by omega)).trans ((HW1.out.block _ hbl).trans HB6.out))
              rcases hx with e | e | e
              · have := HOK.lo; omega
              · have := HOK.lM; omega
              · exact hnb e
            have HB4 : Hid (_ = some _) := hb4
            have HNB : Hid ((Value.slice sa (ord.length + 1) sc).ownBlock ≠ some w.heap.size) := fun e => by
              rcases HP3.out with e1 | e1
              · exact hnb (e1.symm.trans e)
              · rw [e] at e1; simp at e1; omega
            clear hNr hOb hb4 hnb t0 t1 t2 g1 g2 g6 a1 a2 a3 a4 a5
            refine (HRC.out _ (d ||| bm) r1 r2 (ord ++ [nm]) _ n1 D1 HG3.out HG4.out HF1.out hx2 hx3 hx1 HN3.out.1 (by simp; omega)).mono ?_
            rintro e w5 ⟨r, ov5, n5, D5, hL5, rfl, hS5, hD5, hF5, hn5, hO5, hN5⟩
            rw [HP.out, HMU.out] at hS5
            have hz5 := hO5.size
            have HN5 : Hid (Near w ov ov5) := HNR.out.trans hN5 (by omega)
            have HO5 : Hid (Out (Xo c ov) w w5) := HNR.out.out HOB.out hO5
            have HB5 : Hid (w5.heap[w.heap.size]? = some (.cells #[.int .u64 (d : Int), .bool th, .string ⟨v.toArray⟩] 73 (0, 0))) := by
              refine (hO5.block _ (by omega) (fun hx => ?_)).trans HB4.out
              rcases hx with e | e | e
              · have := HOK.lo; omega
              · have := HOK.lM; omega
              · exact HNB.out e
            have HS5 : Hid (Sx _ _ _ w5) := hS5
            have HF5 : Hid (Fd h ns D5) := hF5
            clear hS5 hF5 hO5 hN5 HFO
            cases r with
            | some l =>
              have HL5 : Hid (IsL _ _ _ _ (some (k :: l))) := HSO.out l (by simp) hL5
              have HPO : Hid (RP h ns c m w d th v ord ov n (.returned (.bool true)) w5) := by
                refine ⟨some (k :: l), ov5, n5, D5, HL5.out, rfl, by rw [HP.out, HMU.out]; exact HS5.out, ?_, HF5.out, by have := HN3.out; omega, HO5.out, HN5.out⟩
                rw [HGO.out]
                rw [List.append_assoc] at hD5
                exact hD5
              clear hD5 hL5
              simp only [Option.isSome_some]
              go_wp2
              go_ret
              exact HPO.out
            | none =>
              have HL5 : Hid (Past (L h ns) d.testBit th v (k + 1)) := HNO.out hL5
              rw [show (ord ++ [nm]) ++ gone ns none = ord ++ [nm] from List.append_nil _] at hD5
              obtain ⟨za, zc, hzs, hzq, -⟩ := row_shape hD5.ow
              subst hzs
              obtain ⟨gz, rfl, -, -⟩ := row_ptr hD5.ow (by simp)
              rw [show (ord ++ [nm]).length = ord.length + 1 by simp] at hD5
              have co5 := hD5.co
              have fo5 := hD5.fo
              have HD5 : Hid (Dy _ _ _ _ _ w5) := hD5
              have hcap : ord.length + 1 ≤ zc := by simpa using hzq
              clear hzq
              rw [show (ord ++ [nm]).length = ord.length + 1 by simp] at HN5
              clear hD5 hL5
              simp only [Option.isSome_none]
              go_wp2
              refine ⟨⟨k + 1, .slice (some ⟨gz, 0, none⟩) ord.length zc, n5, D5, by simp, by omega, HL5.out, HS5.out.keep ((Out.refl c.Z w5).put (.inl rfl)), HD5.out.pop HOK, HF5.out, by have := HN3.out; omega, HO5.out.put (.inl rfl), HN5.out, ?_⟩, by simp [intOf]; omega⟩
              rw [Below.heap_setCell _ _ _ _ (by have := HOK.lo; simp; omega)]
              exact HB5.out
        · have : k = p := by omega
          subst this
          have cf1 := hS1.cf
          have HS1 : Hid (Sx _ _ _ wr) := hS1
          have HD1 : Hid (Dy _ _ _ _ _ wr) := hD1
          have hmp1 := hD1.mp
          have hnone : IsL (L h ns) d.testBit th v none := Past.all (by rw [L_len, HP.out]; exact hpast) hfb
          have hcst : k * cst (m - 1) + 1 ≤ cst m := by
            rw [cst_succ hm1]
            have := Nat.mul_le_mul_right (cst (m - 1)) hp
            omega
          have hnm : n1 < maxLen := by unfold maxLen; omega
          have HPO : Hid (∀ w4, w4.ownsMap Try.prog 73 unitElem c.M (n1 + 1) (D1.put (kl d th v) (.agg [])) → wr.grownBy w4 (some c.M) → RP h ns c m w d th v ord ov n (.returned (.bool false)) w4) := fun w4 hm4 hg4 => by
            have hO4 : Out (fun i => i = c.M) wr w4 := Out.grown hg4 (fun j e => by cases e; rfl)
            have hnM : ∀ g, ov1.ownBlock = some g → ¬ g = c.M := fun g hg e => by have := (HD1.out.ow.lt g hg).1; have := HOK.lM; omega
            refine ⟨none, ov1, n1 + 1, D1.put (kl d th v) (.agg []), hnone, rfl, ?_, ?_, ?_, ?_, ?_, hN1⟩
            · rw [HP.out, HMU.out]; exact HS1.out.keep (hO4.mono (fun i hi => .inr (.inl hi)))
            · rw [show ord ++ gone ns none = ord from List.append_nil _]
              exact ⟨out_cell hO4 HD1.out.co HOK.no, (out_frozen hO4 (World.block_lt_of_cell? wr _ HD1.out.co) HOK.no).trans HD1.out.fo, row_out HD1.out.ow hO4 hnM, hm4⟩
            · intro d' th' v' hd' hv' hh'
              by_cases e : kl d' th' v' = kl d th v
              · obtain ⟨rfl, rfl, rfl⟩ := kl_inj (by omega) hv' (by omega) hv e
                exact hnone
              · rw [Maps.has_put_other e] at hh'
                exact hF1 d' th' v' hd' hv' hh'
            · omega
            · exact hO1.trans hO4 (fun i hi _ => .inr (.inl hi))
          clear hS1 hD1 hF1 hpast hO1 hN1 hb6 hcst hnone
          go_wp2_with (first
            | (at_mapUpdate; refine wpList_mapUpdate_own _ rfl _ _ _ _ rfl 73 74 keyedS Try.underlying70 unitElem c.M n1 D1 rfl hmp1 hnm _ _ _ rfl rfl HKE.out (.agg []) [] unitElem_mk ?_; intro w4 hm4 hg4))
          go_ret
          exact HPO.out w4 hm4 hg4
theorem reach_any (h : List Lo) (ns : List Nat) (hp : ns.length ≤ 12) (hns : ∀ i ∈ ns, i < 1000) (hok : ∀ j, (nops h ns j).val.length ≤ maxLen) (c : Cx) : ∀ m, RC h ns c m
  | 0 => reach_step h ns hp hns hok c 0 (.inl rfl)
  | m + 1 => reach_step h ns hp hns hok c (m + 1) (.inr (reach_any h ns hp hns hok c m))
end Go.Proofs.Ytbcnpdpdflkanaa
