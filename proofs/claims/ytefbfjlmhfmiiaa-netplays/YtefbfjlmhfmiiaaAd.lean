/-
  The row: whether there is a place, how long it is; one mail more.
-/
import Derived.Test.YtefbfjlmhfmiiaaLk
namespace Go.Proofs.Ytefbfjlmhfmiiaa
open Go.RowKit
set_option linter.unusedVariables false

def PN.at (P : PN) (i : Int) : Bool := decide (0 ≤ i) && decide (i < (P.E.length : Int))

set_option maxRecDepth 100000 in
set_option maxHeartbeats 1000000 in
/-- at. -/
theorem at_any {N : Nat} {S : Nat → Prop} {w : World} {b : Nat} {P : PN} (h : Nt N S w b P) (i : Int) :
    Calls Try.prog 40 #[.pointer (some ⟨b, 0, none⟩), .int .i64 i] w fun e w' => e = .returned (.bool (P.at i)) ∧ w' = w := by
  obtain ⟨va, vc, es, hm, -⟩ := h.cells
  obtain ⟨-, -, c65, -⟩ := cell_net hm.blk h.ok.len
  have hbw := h.inn _ h.Sb
  unfold PN.at
  clear h hm
  generalize P.E.length = m at *
  by_cases h1 : 0 ≤ i
  · have h1' : decide (0 ≤ i) = true := by simpa using h1
    go_enter Try.func40, Try.ntmps40
    go_wp2
    go_ret
    exact ⟨by simp [h1], rfl⟩
  · have h1' : decide (0 ≤ i) = false := by simpa using h1
    go_enter Try.func40, Try.ntmps40
    go_wp2
    go_ret
    exact ⟨by simp, rfl⟩

set_option maxRecDepth 100000 in
set_option maxHeartbeats 1000000 in
/-- Len. -/
theorem Len_any {N : Nat} {S : Nat → Prop} {w : World} {b : Nat} {P : PN} (h : Nt N S w b P) :
    Calls Try.prog 14 #[.pointer (some ⟨b, 0, none⟩)] w fun e w' => e = .returned (.int .i64 (P.E.length : Int)) ∧ w' = w := by
  obtain ⟨va, vc, es, hm, -⟩ := h.cells
  obtain ⟨-, -, c65, -⟩ := cell_net hm.blk h.ok.len
  have hbw := h.inn _ h.Sb
  clear h hm
  generalize P.E.length = m at *
  go_enter Try.func14, Try.ntmps14
  go_wp2
  go_ret
  exact ⟨rfl, rfl⟩

set_option maxRecDepth 100000 in
set_option maxHeartbeats 1000000 in
/-- own. -/
theorem own_any (n f t : Int) (a : Option Addr) (d : List UInt8) (cap : Nat) (s : Bool) (M : Nat) (w : World) (hs : Sl M w (.slice a d.length cap) d) (hM : M ≤ w.heap.size) (hd : d.length ≤ 140737488355328) :
    Calls Try.prog 38 #[.agg #[.int .i64 n, .int .i64 f, .int .i64 t, .slice a d.length cap, .bool s]] w fun e w' => ∃ xa xc, e = .returned (.agg #[.int .i64 n, .int .i64 f, .int .i64 t, .slice xa d.length xc, .bool s]) ∧ Ow w.heap.size w' (.slice xa d.length xc) d ∧ Below w.heap.size w w' := by
  obtain ⟨W2, hW2⟩ : ∃ W2, (w.alloc (.cells #[.int .i64 n, .int .i64 f, .int .i64 t, .slice a d.length cap, .bool s] 41)).alloc (.cells #[.int .i64 0, .int .i64 0, .int .i64 0, .slice none 0 0, .bool false] 41) = W2 := ⟨_, rfl⟩
  have HW2 : Hid ((w.alloc (.cells #[.int .i64 n, .int .i64 f, .int .i64 t, .slice a d.length cap, .bool s] 41)).alloc (.cells #[.int .i64 0, .int .i64 0, .int .i64 0, .slice none 0 0, .bool false] 41) = W2) := hW2
  have HZ : Hid (W2.heap.size = w.heap.size + 2) := by show W2.heap.size = _; rw [← hW2]; simp
  have HB : Hid (Below w.heap.size w W2) := by show Below _ _ _; rw [← hW2]; exact ((Below.refl _ w).alloc (by simp) _).alloc (by simp) _
  have hs2 := hs.below (HB.out.mono hM)
  have HX : Hid (∀ w1, W2.grownBy w1 none → w1.heap[w.heap.size]? = some (.cells #[.int .i64 n, .int .i64 f, .int .i64 t, .slice a d.length cap, .bool s] 41 (0, 0)) ∧ w1.heap[w.heap.size + 1]? = some (.cells #[.int .i64 0, .int .i64 0, .int .i64 0, .slice none 0 0, .bool false] 41 (0, 0))) := fun w1 hg => by
    refine ⟨(hg.block _ (by rw [HZ.out]; omega) (by simp)).trans ?_, (hg.block _ (by rw [HZ.out]; omega) (by simp)).trans ?_⟩
    · rw [← hW2]
      exact (heap_alloc_old _ _ (by simp)).trans (heap_alloc_new w _)
    · rw [← hW2]
      have := heap_alloc_new (w.alloc (.cells #[.int .i64 n, .int .i64 f, .int .i64 t, .slice a d.length cap, .bool s] 41)) (.cells #[.int .i64 0, .int .i64 0, .int .i64 0, .slice none 0 0, .bool false] 41)
      rw [World.size_alloc] at this
      exact this
  obtain ⟨hx0, hx1⟩ := HX.out W2 (grown_refl _ _)
  obtain ⟨⟨c0, c1, c2, c3, c4⟩, -⟩ := cells5 hx0
  have HO0 := Ow.nil (w.heap.size) W2
  have hlen : ([] : List UInt8).length + d.length ≤ 140737488355328 := by simp; omega
  have hNN : w.heap.size ≤ W2.heap.size := by rw [HZ.out]; omega
  clear hs hx0 hx1 hW2
  go_enter Try.func38, Try.ntmps38
  go_wp2_with (at_builtin; rw [HW2.out]; refine wpList_append_ow rfl _ _ rfl w.heap.size M _ _ [] d rfl HO0 rfl hs2 hlen hNN ?_; intro v' w1 hO hg _; obtain ⟨hx0, hx1⟩ := HX.out w1 hg; obtain ⟨⟨b0, b1, b2, b3, b4⟩, bf⟩ := cells5 hx0; obtain ⟨⟨d0, d1, d2, d3, d4⟩, df⟩ := cells5 hx1; obtain ⟨xa, xc, rfl, -, -⟩ := hO.shape; clear hs2; simp only [List.nil_append] at hO)
  have hx1' : (w1.setCell ⟨w.heap.size, 3, none⟩ (.slice xa d.length xc)).heap[w.heap.size + 1]? = some (.cells #[.int .i64 0, .int .i64 0, .int .i64 0, .slice none 0 0, .bool false] 41 (0, 0)) := (Below.heap_setCell _ _ _ _ (by simp)).trans hx1
  have hO1 : Out (fun j => j = w.heap.size ∨ j = w.heap.size + 1) w1 ((((((w1.setCell ⟨w.heap.size, 3, none⟩ (.slice xa d.length xc)).setCell ⟨w.heap.size + 1, 0, none⟩ (.int .i64 n)).setCell ⟨w.heap.size + 1, 1, none⟩ (.int .i64 f)).setCell ⟨w.heap.size + 1, 2, none⟩ (.int .i64 t)).setCell ⟨w.heap.size + 1, 3, none⟩ (.slice xa d.length xc)).setCell ⟨w.heap.size + 1, 4, none⟩ (.bool s)) :=
    ((((((Out.refl _ w1).put (.inl rfl)).put (.inr rfl)).put (.inr rfl)).put (.inr rfl)).put (.inr rfl)).put (.inr rfl)
  refine bodyPost_ret (results_M (.inl rfl) rfl _ _ (w.heap.size + 1) rfl (set5 hx1' _ _ _ _ _)) rfl ?_
  refine ⟨xa, xc, rfl, hO.out hO1 ?_, ?_⟩
  · rintro g hg' (rfl | rfl)
    · exact hO.not_at hx0 (by decide) hg'
    · exact hO.not_at hx1 (by decide) hg'
  · have hB1 : Below w.heap.size w w1 := HB.out.grown hg hNN (fun k e => by cases e)
    exact hB1.trans (hO1.below hB1.size (fun j hj => by omega))

/-- A row with one more. -/
def PN.add (P : PN) (f t : Int) (d : List UInt8) (s : Bool) : PN := if P.E.length < 2000 then { P with E := P.E ++ [(P.k + 1, f, t, d, s)], k := P.k + 1 } else P
theorem PN.add_ok {P : PN} (h : P.Ok) (f t : Int) (d : List UInt8) (s : Bool) (hd : d.length ≤ 140737488355328) : (P.add f t d s).Ok := by
  unfold PN.add
  have := h.k0
  split
  · exact ⟨h.n1, h.n7, h.len, h.sym, by simp; omega, by show 0 ≤ P.k + 1; omega, fun e he => (List.mem_append.1 he).elim (h.dl e) (fun he => by obtain rfl := List.mem_singleton.1 he; exact hd)⟩
  · exact h

theorem row_shape {N n : Nat} {e : TypeId} {w : World} {v : Value} {xs : List Value} (h : w.ownsRow N e 5 v n xs) : ∃ sa sc, v = .slice sa n sc := by
  rcases h.2 with ⟨hv, h0⟩ | ⟨g, cap, cur, hv, r⟩
  · rw [h0]; exact ⟨_, _, hv⟩
  · exact ⟨_, _, hv⟩

/-- An append of mails as one step of a region that draws. -/
theorem step_append_mls {σ τ : TypeId} (hT : TyM σ τ) {ops : Array Oper} {o : Oper} {a : Act} {w : World} {K : Act → World → Prop} {Q : Exit → Act → World → Prop} {E : Prop}
    (hgd : o.guard = none) (s x : Operand) (hop : o.op = Op.call { callee := Callee.builtin Builtin.append, args := #[s, x], argTypes := #[σ, σ] })
    (N M : Nat) (v : Value) (xa : Option Addr) (xc : Nat) (es fs : List Ml) (hs : a.eval s = v) (hv : w.ownsRow N τ 5 v es.length (mlCells es)) (hx : a.eval x = .slice xa fs.length xc) (hsl : MlsAt M w xa fs) (hlen : es.length + fs.length ≤ 1000000000) (hN : N ≤ w.heap.size)
    (h : ∀ v' w', w'.ownsRow N τ 5 v' (es.length + fs.length) (mlCells es ++ mlCells fs) → w.grownBy w' v.ownBlock → (v'.ownBlock = v.ownBlock ∨ v'.ownBlock = some w.heap.size) → K (a.put o.dst v') w') :
    if Region.wanted o (yielded ops a.tmps) = true then Oper.wp Try.prog o a w K Q else E := by
  have hw : Region.wanted o (yielded ops a.tmps) = true := by simp [Region.wanted, hgd]
  rw [if_pos hw]
  obtain ⟨v', w', hr, h2, h3, h4⟩ := run_append_mls hT o.type w N M v xa xc es fs hv hsl hlen hN
  unfold Oper.wp execOp
  simp only [hop, resolve, invoke, builtin, Sem.run_bind, Sem.run_pure, Result.andThen_ok, List.map_toArray, List.map_cons, List.map_nil, hs, hx, hr]
  exact h v' w' h2 h3 h4
end Go.Proofs.Ytefbfjlmhfmiiaa
