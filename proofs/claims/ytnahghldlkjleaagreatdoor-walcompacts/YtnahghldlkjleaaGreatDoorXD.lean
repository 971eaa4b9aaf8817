/-
  A new ledger. A new ledger, made. face, where the work gives up nothing. Work that writes, where it gives up nothing.
-/
import Derived.Test.YtnahghldlkjleaaGreatDoorWk
import Derived.Defers
import Derived.Recover
import Derived.Test.YtnahghldlkjleaaGreatDoorXA
namespace Go.Proofs.YtnahghldlkjleaaGreatDoor
open Go.RowKit
set_option linter.unusedVariables false

theorem wpList_mapIns {ops : Array Oper} {rest : List Oper} {o : Oper} {a : Act} {Q : Exit → Act → World → Prop} {w : World} (hg : o.guard = none) (m x v : Operand) (t : TypeId) (hop : o.op = Op.insert t m x v)
    (k e : TypeId) (K : Maps.Keyed Tryz.prog k) (ht : Tryz.prog.underlying t = some (.map k e)) (b n : Nat) (D : DataW Value)
    (hm : a.eval m = .map (some b)) (hown : w.ownsMap Tryz.prog k rdF b n D) (hn : n < maxLen) (key val : Value) (kl : Lit) (hx : a.eval x = key) (hv : a.eval v = val) (hkey : keyOf Tryz.prog k key = some kl)
    (hK : ∀ w', w'.ownsMap Tryz.prog k rdF b (n + 1) (D.put kl (.held val)) → w.mapTurned w' b → wpList Tryz.prog ops Q rest (a.put o.dst undef) w') :
    wpList Tryz.prog ops Q (o :: rest) a w := by
  refine wpList_plain hg fun K' hK' => ?_
  obtain ⟨w', hrun, r1, r2⟩ := hown.store K ht hn hkey (show rdF val = some (.held val, []) from rfl)
  unfold Oper.wp
  simp [execOp, hop, hm, hx, hv, hrun, Result.andThen]
  exact hK' _ _ (hK w' r1 r2)
theorem turned_other {w w' : World} {b i : Nat} (h : w.mapTurned w' b) (hi : i < w.heap.size) (hb : i ≠ b) : w'.heap[i]? = w.heap[i]? := h.grown.block i hi (fun e => hb (Option.some.inj e))
theorem turned_below {w w' : World} {b N : Nat} (h : w.mapTurned w' b) (hb : N ≤ b) (hN : N ≤ w.heap.size) : Below N w w' := by
  have g := h.grown
  exact ⟨g.os, g.tape, g.output, g.size, fun i hi => turned_other h (by omega) (by omega)⟩
set_option maxRecDepth 100000 in
theorem changesOf_any (b : Nat) (w : World) :
    Calls Tryz.prog 106 #[.pointer (some ⟨b, 0, none⟩)] w fun e w' => e = .returned (.map (some (w.heap.size + 1))) ∧ w'.ownsMap Tryz.prog 3 rdF (w.heap.size + 1) 4 (chD w.heap.size b) ∧ Bxd w' w.heap.size b ∧ Below w.heap.size w w' := by
  obtain ⟨W0, hW0⟩ : ∃ W0, (w.alloc (.cells #[.pointer (some ⟨b, 0, none⟩)] 112)).alloc (.map #[] 0) = W0 := ⟨_, rfl⟩
  have HW : Hid (_ = W0) := hW0
  have HB : Hid (Below w.heap.size w W0) := by show Below _ _ _; rw [← hW0]; exact ((Below.refl _ w).alloc (Nat.le_refl _) _).alloc (by simp) _
  have HX : Hid (W0.heap[w.heap.size]? = some (.cells #[.pointer (some ⟨b, 0, none⟩)] 112 (0, 0))) := by
    show _ = _
    rw [← hW0]; exact (heap_alloc_old _ _ (by simp)).trans (heap_alloc_new w _)
  have HM : Hid (W0.ownsMap Tryz.prog 3 rdF (w.heap.size + 1) 0 (.map [])) := by
    show World.ownsMap _ _ _ _ _ _ _
    rw [← hW0]
    have := World.ownsMap_made (w.alloc (.cells #[.pointer (some ⟨b, 0, none⟩)] 112)) Tryz.prog 3 rdF
    simpa using this
  have h4 : ∀ n : Nat, n ≤ 4 → n < maxLen := fun n hn => by unfold maxLen; omega
  have HF : Hid (∀ W W1 W2 W3, W0.mapTurned W (w.heap.size + 1) → W.mapTurned W1 (w.heap.size + 1) → W1.mapTurned W2 (w.heap.size + 1) → W2.mapTurned W3 (w.heap.size + 1) → Bxd W3 w.heap.size b ∧ Below w.heap.size w W3) := fun W W1 W2 W3 t0 t1 t2 t3 => by
    have z0 := HB.out.size
    have hx := HX.out
    have l0 := (Array.getElem?_eq_some_iff.1 hx).1
    have l1 := Nat.lt_of_lt_of_le l0 t0.grown.size
    have l2 := Nat.lt_of_lt_of_le l1 t1.grown.size
    have l3 := Nat.lt_of_lt_of_le l2 t2.grown.size
    refine ⟨⟨(0, 0), ?_⟩, (((HB.out.trans (turned_below t0 (Nat.le_succ _) (by omega))).trans (turned_below t1 (Nat.le_succ _) (by omega))).trans (turned_below t2 (Nat.le_succ _) (by omega))).trans (turned_below t3 (Nat.le_succ _) (by omega))⟩
    rw [turned_other t3 l3 (by omega), turned_other t2 l2 (by omega), turned_other t1 l1 (by omega), turned_other t0 l0 (by omega)]
    exact hx
  clear hW0
  have hmm := @run_makeMap Tryz.prog
  have hmf : ∀ (fn : Fn) (first cap : Array Value) (w : World), (Instr.makeFunc fn first cap).run Tryz.prog w = .ok (.func fn first cap) w := fun _ _ _ _ => rfl
  go_enter Tryz.func106, Tryz.ntmps106
  go_wp2_with (first
    | (rw [HW.out]; refine wpList_mapIns rfl _ _ _ 130 rfl 3 178 lawI Tryz.underlying130 (w.heap.size + 1) 0 _ rfl HM.out (h4 _ (by omega)) _ _ _ rfl rfl (keyI 0 (by omega)) ?_; intro W1 m1 t1)
    | (refine wpList_mapIns rfl _ _ _ 130 rfl 3 178 lawI Tryz.underlying130 (w.heap.size + 1) 3 _ rfl m3 (h4 _ (by omega)) _ _ _ rfl rfl (keyI 3 (by omega)) ?_; intro W4 m4 t4)
    | (refine wpList_mapIns rfl _ _ _ 130 rfl 3 178 lawI Tryz.underlying130 (w.heap.size + 1) 2 _ rfl m2 (h4 _ (by omega)) _ _ _ rfl rfl (keyI 2 (by omega)) ?_; intro W3 m3 t3)
    | (refine wpList_mapIns rfl _ _ _ 130 rfl 3 178 lawI Tryz.underlying130 (w.heap.size + 1) 1 _ rfl m1 (h4 _ (by omega)) _ _ _ rfl rfl (keyI 1 (by omega)) ?_; intro W2 m2 t2)
    | fail)
  go_ret
  obtain ⟨q1, q2⟩ := HF.out _ _ _ _ t1 t2 t3 t4
  exact ⟨rfl, m4, q1, q2⟩
end Go.Proofs.YtnahghldlkjleaaGreatDoor
namespace Go.Proofs.YtnahghldlkjleaaGreatDoor
open Go.RowKit
set_option linter.unusedVariables false

def LP0 : LP := ⟨0, 0, 0, 0, 0, [], []⟩
theorem LP0_ok : LP0.Ok where
  len := rfl
  b0 := ⟨by decide, by decide⟩
  t0 := ⟨by decide, by decide⟩
  top := by show (0 : Int) + 0 ≤ _; omega
  ix := fun k hk => absurd hk (by simp [LP0])
  ck := by simp [LP0]
  st := ⟨⟨by decide, by decide⟩, ⟨by decide, by decide⟩, ⟨by decide, by decide⟩⟩
  few := by simp [LP0]
  sb := by simp [LP0]
theorem set8_7 {w : World} {B : Nat} {x0 x1 x2 x3 x4 x5 x6 x7 : Value} {t : TypeId} (h : w.heap[B]? = some (.cells #[x0, x1, x2, x3, x4, x5, x6, x7] t (0, 0))) (y7 : Value) :
    (w.setCell ⟨B, 7, none⟩ y7).heap[B]? = some (.cells #[x0, x1, x2, x3, x4, x5, x6, y7] t (0, 0)) := by
  rw [heap_set h 7 y7]; rfl
set_option maxRecDepth 100000 in
theorem newLedger_any (w : World) :
    Calls Tryz.prog 73 #[] w fun e w' => e = .returned (.pointer (some ⟨w.heap.size, 0, none⟩)) ∧ Lj (fun i => w.heap.size ≤ i ∧ i < w'.heap.size) w' w.heap.size LP0 ∧ Below w.heap.size w w' := by
  obtain ⟨W0, hW0⟩ : ∃ W0, w.alloc (.cells #[.int .i64 0, .int .i64 0, .int .i64 0, .int .i64 0, .int .i64 0, .slice none 0 0, .slice none 0 0, .map none] 132) = W0 := ⟨_, rfl⟩
  have HW : Hid (_ = W0) := hW0
  have hB : Below w.heap.size w W0 := by rw [← hW0]; exact (Below.refl _ w).alloc (Nat.le_refl _) _
  have hz : W0.heap.size = w.heap.size + 1 := by rw [← hW0]; simp
  have hR : W0.heap[w.heap.size]? = some (.cells #[.int .i64 0, .int .i64 0, .int .i64 0, .int .i64 0, .int .i64 0, .slice none 0 0, .slice none 0 0, .map none] 132 (0, 0)) := by rw [← hW0]; exact heap_alloc_new w _
  have HC : Hid (Calls Tryz.prog 106 #[.pointer (some ⟨w.heap.size, 0, none⟩)] W0 fun e w' => ∃ mb, e = .returned (.map (some mb)) ∧ w'.cell? ⟨w.heap.size, 7, none⟩ = some (.map none) ∧ w'.frozen? ⟨w.heap.size, 7, none⟩ = false ∧ Hid (Lj (fun i => w.heap.size ≤ i ∧ i < (w'.setCell ⟨w.heap.size, 7, none⟩ (.map (some mb))).heap.size) (w'.setCell ⟨w.heap.size, 7, none⟩ (.map (some mb))) w.heap.size LP0 ∧ Below w.heap.size w (w'.setCell ⟨w.heap.size, 7, none⟩ (.map (some mb))))) := by
    refine (changesOf_any w.heap.size W0).mono ?_
    rintro e w' ⟨rfl, hm, hc, hB'⟩
    have hR' := bel_heap hB' hR
    obtain ⟨⟨-, -, -, -, -, -, -, c7⟩, cf⟩ := cells8 hR'
    refine ⟨_, rfl, c7, cf 7, ?_, bel_set' (hB.trans (hB'.mono hB.size)) (Nat.le_refl _)⟩
    have hO : Out (fun i => i = w.heap.size) w' (w'.setCell ⟨w.heap.size, 7, none⟩ (.map (some (W0.heap.size + 1)))) := Out.set rfl
    have hml := hm.lt
    have hcl := hc.lt
    refine ⟨⟨.slice none 0 0, [], .slice none 0 0, W0.heap.size + 1, W0.heap.size, set8_7 hR' _, EntsOw.nil _ _, rfl, Ro.nil _ _ _, ownsMap_outF hm hO (by omega), hc.out hO (by omega), ⟨by omega, ?_⟩, ⟨by omega, ?_⟩, fun g hg => by (cases hg), by simp, fun g hg => by (cases hg)⟩, LP0_ok, ⟨Nat.le_refl _, ?_⟩, fun i hi => hi.2⟩
    · rw [size_set]; exact hml
    · rw [size_set]; exact hcl
    · rw [size_set]; omega
  clear hW0 hB hz hR
  go_enter Tryz.func73, Tryz.ntmps73
  go_upto_region 2 with fail
  rw [HW.out]
  go_wp2_with (go_at_call 106; refine HC.out.mono ?_; rintro e w1 ⟨mb, rfl, k7, kf7, HL⟩)
  go_ret
  exact ⟨rfl, HL.out⟩
end Go.Proofs.YtnahghldlkjleaaGreatDoor
namespace Go.Proofs.YtnahghldlkjleaaGreatDoor
open Go.RowKit
set_option linter.unusedVariables false

set_option maxRecDepth 100000 in
theorem face_idle (p : Addr) (w : World) :
    CallsD Tryz.prog 107 #[.pointer (some p)] .returning w fun e u' w' => e = .returned (.tuple #[]) ∧ u' = .returning ∧ w' = w := by
  refine callsD_of_wpS Tryz.func107 rfl fun c₀ cs hu => ?_
  apply wpS_seq
  apply wpS_region
  simp [wpOpsS, go_sem, recoverD, hu, Tryz.ntmps107, Exit.thenS]
  rw [show (#[Value.pointer (some p)] ++ (Array.replicate 11 undef).setIfInBounds 3 Value.nilIface : Array Value) = #[.pointer (some p), undef, undef, undef, .nilIface, undef, undef, undef, undef, undef, undef, undef] from rfl]
  refine wpS_of_wp ?_
  go_wp2
  cases c₀
  simp_all [bodyPostS, results, Tryz.results107]

set_option maxRecDepth 100000 in
theorem face_ok (F : Nat) (caps : Array Value) (w : World) (R : World → Prop) (hent : ∀ (args : Array Value) (w : World), (callFunc F args).run Tryz.prog w = .ok (.enter F args) w)
    (hc : Calls Tryz.prog F caps (w.alloc (.cells #[.int .i64 0] 45)) fun e w' => e = .returned (.tuple #[]) ∧ w'.heap[w.heap.size]? = some (.cells #[.int .i64 0] 45 (0, 0)) ∧ R (w'.setCell ⟨w.heap.size, 0, none⟩ (.int .i64 0))) :
    Calls Tryz.prog 74 #[.func (.func F) #[] caps] w fun e w' => e = .returned (.int .i64 0) ∧ R w' := by
  have hmf : ∀ (fn : Fn) (first cap : Array Value) (w : World), (Instr.makeFunc fn first cap).run Tryz.prog w = .ok (.func fn first cap) w := fun _ _ _ _ => rfl
  go_enter_defers Tryz.func74, Tryz.ntmps74
  go_wp2_with fail
  refine hc.mono ?_
  rintro e w1 ⟨rfl, hx, hR⟩
  have c0 : w1.cell? ⟨w.heap.size, 0, none⟩ = some (.int .i64 0) := by simp only [World.cell?, hx]; rfl
  have f0 : w1.frozen? ⟨w.heap.size, 0, none⟩ = false := by simp [World.frozen?, hx]
  have hx2 : (w1.setCell ⟨w.heap.size, 0, none⟩ (.int .i64 0)).cell? ⟨w.heap.size, 0, none⟩ = some (.int .i64 0) := by
    have := heap_set hx 0 (.int .i64 0)
    simp only [World.cell?, this]; rfl
  go_wp2
  refine leaves_cons (f := 107) (args := #[.pointer (some ⟨w.heap.size, 0, none⟩)]) (by simp) (by simp [go_sem]) ?_
  refine (face_idle ⟨w.heap.size, 0, none⟩ _).mono ?_
  rintro e u' w'' ⟨rfl, rfl, rfl⟩
  simp [Leaves, settle, results, Tryz.results74, go_sem, hx2, hR]
end Go.Proofs.YtnahghldlkjleaaGreatDoor
namespace Go.Proofs.YtnahghldlkjleaaGreatDoor
open Go.RowKit
set_option linter.unusedVariables false

/-- A block beside the wal's is written. -/
theorem Wth.side {A : Nat → Prop} {w W w1 : World} {wb d B : Nat} {X0 X : WS} (h0 : Wl A w wb d X0) (hB : Below w.heap.size w W) (h : Wth A W w1 wb d X) (h1 : w.heap.size ≤ B) (h2 : B < W.heap.size) (o : Nat) (v : Value) : Wth A w (w1.setCell ⟨B, o, none⟩ v) wb d X := by
  have hz : (w1.setCell ⟨B, o, none⟩ v).heap.size = w1.heap.size := size_set _ _ _
  have hO1 : Out A w w1 := (Out.of_below (X := A) hB).trans h.out (fun i hi _ => hi)
  have hO : Out A w (w1.setCell ⟨B, o, none⟩ v) := hO1.trans (Y := fun i => i = B) (Out.set rfl) (fun i hi hlt => by subst hi; omega)
  have hn : ∀ i, grew A W w1 i → ¬ i = B := by
    rintro i (hi | hi) rfl
    · have := h0.inn i hi; omega
    · omega
  obtain ⟨S, L, b, sv, k, q⟩ := h.q
  have q2 := q.out (X' := fun i => i = B) (w' := w1.setCell ⟨B, o, none⟩ v) (Out.set rfl) hn (fun V hV => h0.vr V (by
    refine hO.trans hV (fun i hi hlt => hi.elim id (fun h3 => ?_))
    have := hB.size; omega))
  refine ⟨⟨S, L, b, sv, k, q2.wide (fun i hi => hi.imp id (fun h3 => ⟨Nat.le_trans hB.size h3.1, by rw [hz]; exact h3.2⟩)) (grew_inn h0.inn hO.size) (vr_step h0.vr hO)⟩, hO⟩
/-- The mark of a broken wal is written. -/
theorem Wl.mark {A : Nat → Prop} {w : World} {wb d : Nat} {X : WS} (h : Wl A w wb d X) (br : Bool) : (∃ v, w.cell? ⟨wb, 4, none⟩ = some v) ∧ w.frozen? ⟨wb, 4, none⟩ = false ∧ Wth A w (w.setCell ⟨wb, 4, none⟩ (.bool br)) wb d { X with br := br } := by
  obtain ⟨S, L, b, sv, k, h⟩ := h
  obtain ⟨⟨-, -, -, -, c4⟩, cf⟩ := cells5w h.hw
  refine ⟨⟨_, c4⟩, cf 4, ?_⟩
  refine h.segs (sg' := X.sg) (br' := br) (Out.set (.inl rfl)) ?_ (h.hs.out (X := fun i => i = wb) (Out.set rfl) (fun g hg e => h.not_wb (by rw [← e]; exact hg))) (fun g hg => .inl hg)
  rw [heap_set h.hw 4 (.bool br)]; rfl

set_option maxRecDepth 100000 in
theorem write_ok {A : Nat → Prop} {w : World} {wb d : Nat} {X X' : WS} (h : Wl A w wb d X) (F : Nat) (caps : Array Value) (hent : ∀ (args : Array Value) (w : World), (callFunc F args).run Tryz.prog w = .ok (.enter F args) w)
    (hc : ∀ W, Below w.heap.size w W → Calls Tryz.prog F caps W fun e w' => e = .returned (.tuple #[]) ∧ Wth A W w' wb d X') :
    Calls Tryz.prog 48 #[.pointer (some ⟨wb, 0, none⟩), .func (.func F) #[] caps] w fun e w' => e = .returned (.int .i64 0) ∧ Wth A w w' wb d { X' with br := false } := by
  have hB : Below w.heap.size w (w.alloc (.cells #[.int .i64 0] 45)) := (Below.refl _ w).alloc (Nat.le_refl _) _
  have HF : Hid (Calls Tryz.prog 74 #[.func (.func F) #[] caps] w fun e w' => e = .returned (.int .i64 0) ∧ (∃ v, w'.cell? ⟨wb, 4, none⟩ = some v) ∧ w'.frozen? ⟨wb, 4, none⟩ = false ∧ Hid (Wth A w (w'.setCell ⟨wb, 4, none⟩ (.bool false)) wb d { X' with br := false })) := by
    refine (face_ok F caps w (fun w' => Wth A w w' wb d X') hent ?_).mono ?_
    · refine (hc _ hB).mono ?_
      rintro e w1 ⟨rfl, hT⟩
      have hna : ¬ A w.heap.size := fun ha => by have := h.inn _ ha; omega
      have hx : w1.heap[w.heap.size]? = some (.cells #[.int .i64 0] 45 (0, 0)) := (hT.out.block _ (by simp) hna).trans (heap_alloc_new w _)
      exact ⟨rfl, hx, hT.side h hB (Nat.le_refl _) (by simp) 0 _⟩
    · rintro e w' ⟨rfl, hT⟩
      obtain ⟨k1, k2, k3⟩ := hT.q.mark false
      exact ⟨rfl, k1, k2, hT.trans k3⟩
  clear h hc hB
  go_enter Tryz.func48, Tryz.ntmps48
  go_wp2_with (go_at_call 74; refine HF.out.mono ?_; rintro e w1 ⟨rfl, ⟨v, k1⟩, k2, HT⟩)
  go_ret
  exact ⟨rfl, HT.out⟩
end Go.Proofs.YtnahghldlkjleaaGreatDoor
