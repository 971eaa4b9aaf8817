/-
  Clear; List.
-/
import Derived.Test.YtefbfjlmhfmiiaaCl
namespace Go.Proofs.Ytefbfjlmhfmiiaa
open Go.RowKit
set_option linter.unusedVariables false

def clearE (E : List Ma) (to : Int) : List Ma := E.filter (fun m => mT m != to)
def PN.clear (P : PN) (to : Int) : PN := { P with E := clearE P.E to }
def PN.clr (P : PN) (to : Int) : Int := (P.E.length : Int) - ((clearE P.E to).length : Int)
theorem PN.clear_ok {P : PN} (h : P.Ok) (to : Int) : (P.clear to).Ok :=
  ⟨h.n1, h.n7, h.len, h.sym, Nat.le_trans (List.length_filter_le _ _) h.row, h.k0, fun e he => h.dl e (List.mem_filter.1 he).1⟩
theorem keepE_says {es : List Ml} {E : List Ma} (hs : es.map Ml.says = E) (to : Int) : (keepE to es).map Ml.says = clearE E to := by
  subst hs
  unfold keepE clearE
  rw [List.filter_map]
  rfl

set_option maxRecDepth 100000 in
set_option maxHeartbeats 4000000 in
theorem deleteFunc_nil (T : Nat) (to : Int) (va : Option Addr) (cap : Nat) (w : World) (hT : w.cell? ⟨T, 0, none⟩ = some (.int .i64 to)) (hTw : T < w.heap.size) :
    Calls Try.prog 44 #[.slice va 0 cap, .func (.func 45) #[] #[.pointer (some ⟨T, 0, none⟩)]] w fun e w' => e = .returned (.slice va 0 cap) ∧ Below w.heap.size w w' := by
  have HIX : Hid (Calls Try.prog 52 #[.slice va 0 cap, .func (.func 45) #[] #[.pointer (some ⟨T, 0, none⟩)]] w fun e w' => IdxR [] to w e w') := index_any T to va cap [] w (MlsAt.nil _ _ _) (by simp) hT hTw
  clear hT
  go_enter Try.func44, Try.ntmps44
  go_wp2_with fail
  refine HIX.out.mono ?_
  rintro r w1 ⟨hB1, ⟨rfl, -⟩ | ⟨k0, -, hk0, -⟩⟩
  · have HB : Hid (Below _ _ _) := hB1
    clear hB1
    go_wp2
    go_ret
    exact ⟨rfl, HB.out⟩
  · simp at hk0

set_option maxRecDepth 100000 in
set_option maxHeartbeats 4000000 in
/-- Clear. -/
theorem Clear_any {N : Nat} {S : Nat → Prop} {w : World} {b : Nat} {P : PN} (h : Nt N S w b P) (hN : N ≤ w.heap.size) (to : Int) :
    Calls Try.prog 24 #[.pointer (some ⟨b, 0, none⟩), .int .i64 to] w fun r w' => r = .returned (.int .i64 (P.clr to)) ∧ NTh N S w w' b (P.clear to) := by
  obtain ⟨va, vc, es, hm, hl, hvc, hvm, hv1, hv2⟩ := h.cells
  have hbw := h.inn _ h.Sb
  have hrow := h.ok.row
  obtain ⟨W1, hW1⟩ : ∃ W1, w.alloc (.cells #[.int .i64 to] 3) = W1 := ⟨_, rfl⟩
  have HW1 : Hid (w.alloc (.cells #[.int .i64 to] 3) = W1) := hW1
  have hB1 : Below w.heap.size w W1 := by rw [← hW1]; exact (Below.refl _ w).alloc (Nat.le_refl _) _
  have hX1 : W1.heap[w.heap.size]? = some (.cells #[.int .i64 to] 3 (0, 0)) := by rw [← hW1]; exact heap_alloc_new w _
  have hz1 : W1.heap.size = w.heap.size + 1 := by rw [← hW1]; simp
  have hT1 : W1.cell? ⟨w.heap.size, 0, none⟩ = some (.int .i64 to) := by simp only [World.cell?, hX1]; rfl
  have hsy := keepE_says hm.says to
  have hkl : (keepE to es).length = (clearE P.E to).length := by rw [← hsy]; simp
  have hcle : (clearE P.E to).length ≤ P.E.length := List.length_filter_le _ _
  have hm1 := hm.row.below hB1
  have hb1 := (hB1.block b hbw).trans hm.blk
  have hgb : ∀ g, (Value.slice va P.E.length vc).ownBlock = some g → g ≠ b := by rintro g hg rfl; exact hm.row.not_at hm.blk (by decide) hg
  have HDF : Hid (Calls Try.prog 44 #[.slice va P.E.length vc, .func (.func 45) #[] #[.pointer (some ⟨w.heap.size, 0, none⟩)]] W1 fun e w' => e = .returned (.slice va (clearE P.E to).length vc) ∧ MlsOw 41 0 w' (.slice va (clearE P.E to).length vc) (keepE to es) ∧ Out (fun j => (Value.slice va P.E.length vc).ownBlock = some j) W1 w') := by
    show Calls _ _ _ _ _
    by_cases hp : 0 < es.length
    · obtain ⟨g, cur, hge, -⟩ := MlsOw.open (es := es) (by rw [hl]; exact hm1) hp
      subst hge
      have := deleteFunc_any w.heap.size to g vc es W1 (by rw [hl]; exact hm1) hp (by omega) hT1 (by omega) (by have := h.inn _ (hv1 g rfl); omega)
      rw [hl] at this
      refine this.mono ?_
      rintro r w2 ⟨rfl, q1, q2⟩
      rw [hkl] at q1 ⊢
      exact ⟨rfl, q1, q2.mono (fun j hj => by rw [hj]; rfl)⟩
    · have hes : es = [] := List.length_eq_zero_iff.1 (by omega)
      have hE0 : P.E = [] := List.length_eq_zero_iff.1 (by omega)
      have := deleteFunc_nil w.heap.size to va vc W1 hT1 (by omega)
      have hlen0 : P.E.length = 0 := by omega
      rw [hlen0]
      refine this.mono ?_
      rintro r w2 ⟨rfl, q1⟩
      rw [hE0]
      refine ⟨rfl, ?_, Out.of_below q1⟩
      rw [hes]
      have h9 := hm1.below q1
      rw [hlen0, hes] at h9
      exact h9
  have HF : Hid (∀ w2, MlsOw 41 0 w2 (.slice va (clearE P.E to).length vc) (keepE to es) → Out (fun j => (Value.slice va P.E.length vc).ownBlock = some j) W1 w2 → (w2.cell? ⟨b, 65, none⟩ = some (.slice va P.E.length vc) ∧ w2.frozen? ⟨b, 65, none⟩ = false ∧ b < w2.heap.size) ∧ NTh N S w (w2.setCell ⟨b, 65, none⟩ (.slice va (clearE P.E to).length vc)) b (P.clear to)) := fun w2 q1 q2 => by
    have hb2 := (q2.block b (by omega) (fun hf => hgb b hf rfl)).trans hb1
    obtain ⟨-, -, p65, -, pf⟩ := cell_net hb2 h.ok.len
    have hO : Out S w w2 := (Out.of_below hB1).trans q2 (fun j hj _ => hv1 j hj)
    refine ⟨⟨p65, pf 65, by have := hO.size; omega⟩, ?_⟩
    have hne2 : (Value.slice va (clearE P.E to).length vc).ownBlock ≠ some b := q1.not_at hb2 (by decide)
    refine h.turn hN (hO.put h.Sb) (.slice va (clearE P.E to).length vc) (keepE to es) ⟨?_, ?_, hsy, hm.apt.sublist List.filter_sublist⟩ ?_ ?_ (PN.clear_ok h.ok to)
    · have := heap_set hb2 65 (.slice va (clearE P.E to).length vc)
      rw [netCells_setRow _ _ _ _ _ h.ok.len] at this
      exact this
    · exact q1.out (X := fun j => j = b) (Out.set rfl) (by rintro g hg rfl; exact hne2 hg) (fun f hf g hg e9 => by subst e9; exact (q1.dat f hf).not_at hb2 (by decide) hg)
    · intro g hg
      cases va with
      | none => simp [Value.ownBlock] at hg
      | some x => exact .inl (hv1 g hg)
    · intro f hf g hg
      exact .inl (hv2 f (List.mem_filter.1 hf).1 g hg)
  obtain ⟨-, -, c65, -, -⟩ := cell_net hm.blk h.ok.len
  obtain ⟨-, -, d65, -, -⟩ := cell_net hb1 h.ok.len
  have hbw1 : b < W1.heap.size := by omega
  have hwr : IntKind.i64.wrap ((P.E.length : Int) - ((clearE P.E to).length : Int)) = (P.E.length : Int) - ((clearE P.E to).length : Int) := by rw [IntKind.wrap_i64]; omega
  unfold PN.clr
  have hn9 : P.E.length ≤ 2000 := hrow
  clear h hm hl hv1 hv2 hW1 hB1 hX1 hz1 hT1 hsy hkl hm1 hb1 hgb
  generalize P.E.length = n at *
  generalize (clearE P.E to).length = m at *
  go_enter Try.func24, Try.ntmps24
  go_wp2_with fail
  rw [HW1.out]
  refine HDF.out.mono ?_
  rintro r w2 ⟨rfl, q1, q2⟩
  obtain ⟨⟨n2, nf, nz⟩, hT⟩ := HF.out w2 q1 q2
  have HT : Hid (NTh _ _ _ _ _ _) := hT
  clear q1 q2 hT HF HDF
  go_wp2
  go_ret
  exact ⟨rfl, HT.out⟩

set_option maxRecDepth 100000 in
set_option maxHeartbeats 4000000 in
/-- List. -/
theorem List_any {N : Nat} {S : Nat → Prop} {w : World} {b : Nat} {P : PN} (h : Nt N S w b P) :
    Calls Try.prog 12 #[.pointer (some ⟨b, 0, none⟩)] w fun r w' => ∃ v fs, r = .returned v ∧ MlsOw 41 w.heap.size w' v fs ∧ fs.map Ml.says = P.E ∧ Below w.heap.size w w' := by
  obtain ⟨va, vc, es, hm, hl, hvc, hvm, hv1, hv2⟩ := h.cells
  have hbw := h.inn _ h.Sb
  have hrow := h.ok.row
  obtain ⟨-, -, c65, -, -⟩ := cell_net hm.blk h.ok.len
  have HE : Hid (MlsAt w.heap.size w va es) := MlsOw.at (es := es) (by rw [hl]; exact hm.row)
  have HDL : Hid (∀ e ∈ es, e.d.length ≤ 140737488355328) := fun e he => by
    have := h.ok.dl e.says (by rw [← hm.says]; exact List.mem_map_of_mem he)
    exact this
  have HSY : Hid (es.map Ml.says = P.E) := hm.says
  have HL : Hid (es.length = P.E.length) := hl
  clear h hm hv1 hv2
  rw [← hl] at c65 hvc hrow
  obtain ⟨G, hG⟩ : ∃ G, w.heap.size = G := ⟨_, rfl⟩
  have HG : Hid (w.heap.size = G) := hG
  rw [hG] at HE ⊢
  clear hG hl
  go_enter Try.func12, Try.ntmps12
  go_wp2_with fail
  go_loopw [3, 11] (fun rv iv wr => ∃ (k : Nat) (fs : List Ml), iv = .int .i64 (k : Int) ∧ k ≤ es.length ∧ MlsOw 41 G wr rv fs ∧ fs.map Ml.says = (es.take k).map Ml.says ∧ fs.length = k ∧ Below G w wr) (fun _ iv _ => es.length - (intOf iv).toNat)
  case atStart => exact ⟨0, [], rfl, Nat.zero_le _, MlsOw.nil _ _ _, rfl, rfl, Below.refl _ _⟩
  case round =>
    obtain ⟨k, fs, rfl, hk, hR, hsy, hfl, hB⟩ := hrel
    have HR : Hid (MlsOw 41 G wr u3 fs) := hR
    have HS : Hid (fs.map Ml.says = (es.take k).map Ml.says) := hsy
    have HF : Hid (fs.length = k) := hfl
    have HB : Hid (Below G w wr) := hB
    clear hR hsy hfl hB
    by_cases hlt : k < es.length
    · obtain ⟨rg, off, hea, hb, he⟩ := HE.out.at hlt
      subst hea
      have he1 := he.below hb HB.out
      have hdl := HDL.out _ (getD_mem' hlt)
      have HTK : Hid (es.take (k + 1) = es.take k ++ [es.getD k nilMl]) := take_succ' hlt
      generalize es.getD k nilMl = e at *
      obtain ⟨c0, c1, c2, c3, c4, hs⟩ := he1
      unfold Ml.x at c3 hs
      have hGw : G ≤ wr.heap.size := by have := HB.out.size; have := HG.out; omega
      have hrw : rg < wr.heap.size := by omega
      have hBa : Below wr.heap.size wr (wr.alloc (.cells #[.int .i64 e.n, .int .i64 e.f, .int .i64 e.t, .slice e.a e.d.length e.c, .bool e.s] 41)) := (Below.refl _ wr).alloc (Nat.le_refl _) _
      have HOW : Hid (Calls _ _ _ _ _) := own_any e.n e.f e.t e.a e.d e.c e.s G (wr.alloc (.cells #[.int .i64 e.n, .int .i64 e.f, .int .i64 e.t, .slice e.a e.d.length e.c, .bool e.s] 41)) (hs.below (hBa.mono hGw)) (by simp; omega) hdl
      have HX : Hid (∀ w2 xa xc, Below (wr.alloc (.cells #[.int .i64 e.n, .int .i64 e.f, .int .i64 e.t, .slice e.a e.d.length e.c, .bool e.s] 41)).heap.size (wr.alloc (.cells #[.int .i64 e.n, .int .i64 e.f, .int .i64 e.t, .slice e.a e.d.length e.c, .bool e.s] 41)) w2 → Ow (wr.alloc (.cells #[.int .i64 e.n, .int .i64 e.f, .int .i64 e.t, .slice e.a e.d.length e.c, .bool e.s] 41)).heap.size w2 (.slice xa e.d.length xc) e.d → Below wr.heap.size wr w2 ∧ (w2.alloc (.cells #[.int .i64 e.n, .int .i64 e.f, .int .i64 e.t, .slice xa e.d.length xc, .bool e.s] 41)).ownsRow G 41 5 u3 fs.length (mlCells fs) ∧ MlsAt (w2.heap.size + 1) (w2.alloc (.cells #[.int .i64 e.n, .int .i64 e.f, .int .i64 e.t, .slice xa e.d.length xc, .bool e.s] 41)) (some ⟨w2.heap.size, 0, none⟩) [(⟨e.n, e.f, e.t, xa, xc, e.d, e.s⟩ : Ml)] ∧ G ≤ (w2.alloc (.cells #[.int .i64 e.n, .int .i64 e.f, .int .i64 e.t, .slice xa e.d.length xc, .bool e.s] 41)).heap.size) := fun w2 xa xc hB2 hO2 => by
        have hB2' : Below wr.heap.size wr w2 := hBa.trans (hB2.mono (by simp))
        refine ⟨hB2', World.ownsRow.alloc (HR.out.below hB2').row _, mls_one 41 w2 ⟨e.n, e.f, e.t, xa, xc, e.d, e.s⟩ w2.heap.size (hO2.sl (Nat.le_refl _)) (Nat.le_refl _), by have := hB2'.size; simp; omega⟩
      have HN : Hid (∀ w2 xa xc w4 v', Below wr.heap.size wr w2 → Ow (wr.alloc (.cells #[.int .i64 e.n, .int .i64 e.f, .int .i64 e.t, .slice e.a e.d.length e.c, .bool e.s] 41)).heap.size w2 (.slice xa e.d.length xc) e.d → w4.ownsRow G 41 5 v' (fs.length + 1) (mlCells fs ++ mlCells [(⟨e.n, e.f, e.t, xa, xc, e.d, e.s⟩ : Ml)]) → (w2.alloc (.cells #[.int .i64 e.n, .int .i64 e.f, .int .i64 e.t, .slice xa e.d.length xc, .bool e.s] 41)).grownBy w4 u3.ownBlock → MlsOw 41 G w4 v' (fs ++ [(⟨e.n, e.f, e.t, xa, xc, e.d, e.s⟩ : Ml)]) ∧ Below G w w4) := fun w2 xa xc w4 v' hB2 hO2 q1 q2 => by
        have hr2 := (HR.out.below hB2).alloc (.cells #[.int .i64 e.n, .int .i64 e.f, .int .i64 e.t, .slice xa e.d.length xc, .bool e.s] 41)
        refine ⟨hr2.app (by decide) (fun x hx => by obtain rfl := List.mem_singleton.1 hx; exact (hO2.base (by simp; omega)).alloc _) (by simpa using q1) q2, ?_⟩
        have h1 : Below G w (w2.alloc (.cells #[.int .i64 e.n, .int .i64 e.f, .int .i64 e.t, .slice xa e.d.length xc, .bool e.s] 41)) := (HB.out.trans (hB2.mono hGw)).alloc (by have := hB2.size; omega) _
        exact h1.grown q2 (by have := hB2.size; simp; omega) (fun j hj => (HR.out.lt hj).1)
      have i0 : (0 : Int) ≤ (k : Int) := by omega
      have i1 : (k : Int) < (es.length : Int) := by omega
      have hlen9 : fs.length + 1 ≤ 1000000000 := by rw [HF.out]; omega
      clear he hs hBa hdl
      go_wp2_with fail
      refine HOW.out.mono ?_
      rintro r w2 ⟨xa, xc, rfl, hO2, hB2⟩
      obtain ⟨hB2', hrow5, hsl5, hG5⟩ := HX.out w2 xa xc hB2 hO2
      have HNN : Hid (∀ w4 v', _ → _ → _) := fun w4 v' => HN.out w2 xa xc w4 v' hB2' hO2
      clear hB2 hB2' hO2 HX HN HOW
      go_wp2_with (at_builtin; refine wpList_append_mls tyM rfl _ _ rfl G (w2.heap.size + 1) u3 (some ⟨w2.heap.size, 0, none⟩) 1 fs [(⟨e.n, e.f, e.t, xa, xc, e.d, e.s⟩ : Ml)] rfl hrow5 rfl hsl5 hlen9 hG5 ?_; intro v' w4 q1 q2 q3; obtain ⟨r1, r2⟩ := HNN.out w4 v' q1 q2; have HR1 : Hid (MlsOw _ _ _ _ _) := r1; have HR2 : Hid (Below _ _ _) := r2; clear q1 q2 q3 r1 r2 hrow5 hsl5 HNN)
      exact ⟨⟨k + 1, fs ++ [(⟨e.n, e.f, e.t, xa, xc, e.d, e.s⟩ : Ml)], by go_num, by omega, HR1.out, by rw [HTK.out, List.map_append, List.map_append, HS.out]; rfl, by rw [List.length_append, HF.out]; rfl, HR2.out⟩, by simp [intOf]; omega⟩
    · have hkn : (es.length : Int) ≤ (k : Int) := by omega
      have HFI : Hid (fs.map Ml.says = P.E) := by show _ = _; rw [HS.out, List.take_of_length_le (by omega)]; exact HSY.out
      go_wp2
      go_ret
      exact ⟨_, fs, rfl, HR.out, HFI.out, HB.out⟩
end Go.Proofs.Ytefbfjlmhfmiiaa
