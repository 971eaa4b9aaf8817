/-
  Entries that are to stand behind a place; a log made anew.
-/
import Derived.Test.YteekpfgjpdopmaaCp
namespace Go.Proofs.Yteekpfgjpdopmaa
open Go.RowKit
set_option linter.unusedVariables false

/-- The first error of entries. -/
def firstErr : List En → Nat
  | [] => 0
  | e :: r => if eCk e ≠ 0 then eCk e else firstErr r
/-- Do they go on from a place? -/
def goesE : Int → Int → List En → Bool
  | _, _, [] => true
  | ix, lt, e :: r => (eI e == ix + 1) && decide (lt ≤ eT e) && goesE (eI e) (eT e) r
/-- checkEntries' answer. -/
def ckList (ix lt : Int) (E : List En) : Nat := if firstErr E ≠ 0 then firstErr E else if goesE ix lt E then 0 else 4

theorem firstErr_ok {e : En} {r : List En} (h : eCk e = 0) : firstErr (e :: r) = firstErr r := by simp [firstErr, h]
theorem firstErr_no {e : En} {r : List En} (h : eCk e ≠ 0) : firstErr (e :: r) = eCk e := by simp [firstErr, h]
theorem firstErr_all : ∀ {E : List En}, firstErr E = 0 ↔ ∀ e ∈ E, eCk e = 0
  | [] => by simp [firstErr]
  | e :: r => by
    by_cases h : eCk e = 0
    · rw [firstErr_ok h, firstErr_all]; simp [h]
    · rw [firstErr_no h]; simp [h]
theorem cells2 {w : World} {b : Nat} {t : TypeId} {v0 v1 : Value} (h : w.heap[b]? = some (.cells #[v0, v1] t (0, 0))) :
    (w.cell? ⟨b, 0, none⟩ = some v0 ∧ w.cell? ⟨b, 1, none⟩ = some v1) ∧ (w.frozen? ⟨b, 0, none⟩ = false ∧ w.frozen? ⟨b, 1, none⟩ = false) := by
  refine ⟨⟨?_, ?_⟩, ?_, ?_⟩ <;> simp [World.cell?, World.frozen?, h]
theorem set2 {w : World} {B : Nat} {x0 x1 : Value} {t : TypeId} (h : w.heap[B]? = some (.cells #[x0, x1] t (0, 0))) (y0 y1 : Value) :
    ((w.setCell ⟨B, 0, none⟩ y0).setCell ⟨B, 1, none⟩ y1).heap[B]? = some (.cells #[y0, y1] t (0, 0)) := by
  rw [heap_set (heap_set h 0 y0) 1 y1]; rfl
theorem cells5 {w : World} {b : Nat} {t : TypeId} {v0 v1 v2 v3 v4 : Value} (h : w.heap[b]? = some (.cells #[v0, v1, v2, v3, v4] t (0, 0))) :
    (w.cell? ⟨b, 0, none⟩ = some v0 ∧ w.cell? ⟨b, 1, none⟩ = some v1 ∧ w.cell? ⟨b, 2, none⟩ = some v2 ∧ w.cell? ⟨b, 3, none⟩ = some v3 ∧ w.cell? ⟨b, 4, none⟩ = some v4) ∧ ∀ o, w.frozen? ⟨b, o, none⟩ = false := by
  refine ⟨⟨?_, ?_, ?_, ?_, ?_⟩, ?_⟩
  all_goals (first | (simp only [World.cell?, h]; rfl) | skip)
  intro o
  simp [World.frozen?, h]
theorem saysdrop {es : List Ent} {k : Nat} (h : k < es.length) : (es.map Ent.says).drop k = (es.getD k nilEnt).says :: (es.map Ent.says).drop (k + 1) := by
  rw [← List.map_drop, drop_at h, List.map_cons, List.map_drop]

set_option maxRecDepth 100000 in
set_option maxHeartbeats 4000000 in
/-- checkEntries. -/
theorem checkEntries_any (ix lt : Int) (va : Option Addr) (vc : Nat) (es : List Ent) (M : Nat) (w : World) (hE : EntsAt M w va es) (hM : M ≤ w.heap.size) (hn : es.length ≤ 1000000) (hix : 0 ≤ ix ∧ ix ≤ 4611686018427387904) :
    Calls Try.prog 73 #[.agg #[.int .i64 ix, .int .i64 lt], .slice va es.length vc] w fun e w' => e = .returned (.int .i64 (ckList ix lt (es.map Ent.says) : Int)) ∧ Below w.heap.size w w' := by
  obtain ⟨W0, hW0⟩ : ∃ W0, w.alloc (.cells #[.int .i64 ix, .int .i64 lt] 76) = W0 := ⟨_, rfl⟩
  have HW0 : Hid (w.alloc (.cells #[.int .i64 ix, .int .i64 lt] 76) = W0) := hW0
  have HB0 : Hid (Below w.heap.size w W0) := by show Below _ _ _; rw [← hW0]; exact (Below.refl _ w).alloc (Nat.le_refl _) _
  have HZ0 : Hid (W0.heap.size = w.heap.size + 1) := by show W0.heap.size = _; rw [← hW0]; simp
  have HX0 : Hid (W0.heap[w.heap.size]? = some (.cells #[.int .i64 ix, .int .i64 lt] 76 (0, 0))) := by show W0.heap[w.heap.size]? = _; rw [← hW0]; exact heap_alloc_new w _
  have HE : Hid (EntsAt M W0 va es) := hE.below (HB0.out.mono hM)
  obtain ⟨G, HG⟩ : ∃ G, Hid (w.heap.size = G) := ⟨_, rfl⟩
  have HMG : Hid (M ≤ G) := by show M ≤ G; rw [← HG.out]; exact hM
  rw [HG.out] at HB0 HZ0 HX0
  clear hE hM hW0
  obtain ⟨R, HR⟩ : ∃ R, Hid (ckList ix lt (es.map Ent.says) = R) := ⟨_, rfl⟩
  rw [HR.out, HG.out]
  go_enter Try.func73, Try.ntmps73
  go_wp2_with fail
  rw [HW0.out, HG.out]
  go_loopw [12] (fun iv wr => ∃ (k : Nat), iv = .int .i64 (k : Int) ∧ k ≤ es.length ∧ firstErr ((es.map Ent.says).drop k) = firstErr (es.map Ent.says) ∧ Below W0.heap.size W0 wr) (fun iv _ => es.length - (intOf iv).toNat)
  case atStart => exact ⟨0, rfl, Nat.zero_le _, rfl, Below.refl _ _⟩
  case round =>
    obtain ⟨k, rfl, hk, hfe, hB⟩ := hrel
    have HFE : Hid (firstErr ((es.map Ent.says).drop k) = firstErr (es.map Ent.says)) := hfe
    have HB : Hid (Below W0.heap.size W0 wr) := hB
    clear hfe hB
    by_cases hlt : k < es.length
    · obtain ⟨b, off, hea, hbM, he⟩ := HE.out.at hlt
      subst hea
      have he' := he.below hbM (HB.out.mono (by have := HZ0.out; have := HMG.out; omega))
      have HD : Hid ((es.map Ent.says).drop k = (es.getD k nilEnt).says :: (es.map Ent.says).drop (k + 1)) := saysdrop hlt
      generalize es.getD k nilEnt = e at *
      obtain ⟨et, ei, ek, eaa, ecc, ed⟩ := e
      obtain ⟨c0, c1, c2, c3, -⟩ := he'
      unfold Ent.x at c3
      simp only at c0 c1 c2 c3
      have hbw : b < wr.heap.size := by have := HB.out.size; have := HZ0.out; have := HMG.out; omega
      have HBA : Hid (Below W0.heap.size W0 (wr.alloc (.cells #[.int .i64 et, .int .i64 ei, .int .i64 ek, .slice eaa ed.length ecc] 40))) := HB.out.alloc HB.out.size _
      have HCK : Hid (eCk (Ent.says ⟨et, ei, ek, eaa, ecc, ed⟩) = ckEntry et ei ek ed.length) := rfl
      clear he
      by_cases hz : ckEntry et ei ek ed.length = 0
      · have HF2 : Hid (firstErr ((es.map Ent.says).drop (k + 1)) = firstErr (es.map Ent.says)) := by
          show _ = _
          rw [← HFE.out, HD.out, firstErr_ok (HCK.out.trans hz)]
        have hck := ckEntry_any et ei ek eaa ed.length ecc (wr.alloc (.cells #[.int .i64 et, .int .i64 ei, .int .i64 ek, .slice eaa ed.length ecc] 40))
        rw [hz] at hck
        clear hz
        go_wp2_with (go_at_call 70; refine hck.mono ?_; rintro r w5 ⟨rfl, hB5⟩; have HB5 : Hid (Below _ _ _) := HBA.out.trans (hB5.mono HBA.out.size); clear hB5 hck)
        exact ⟨⟨k + 1, by go_num, by omega, HF2.out, HB5.out⟩, by simp [intOf]; omega⟩
      · have HF2 : Hid (R = ckEntry et ei ek ed.length) := by
          show _ = _
          have h1 : firstErr (es.map Ent.says) = ckEntry et ei ek ed.length := by rw [← HFE.out, HD.out, firstErr_no (fun h => hz (HCK.out.symm.trans h)), HCK.out]
          rw [← HR.out]; unfold ckList; rw [h1, if_pos hz]
        have hck := ckEntry_any et ei ek eaa ed.length ecc (wr.alloc (.cells #[.int .i64 et, .int .i64 ei, .int .i64 ek, .slice eaa ed.length ecc] 40))
        generalize ckEntry et ei ek ed.length = q at *
        have hz' : ((q : Int) != 0) = true := by simp; omega
        clear hz
        go_wp2_with (go_at_call 70; refine hck.mono ?_; rintro r w5 ⟨rfl, hB5⟩; have HB5 : Hid (Below _ _ _) := HBA.out.trans (hB5.mono HBA.out.size); clear hB5 hck)
        go_returns
        exact ⟨by have := HF2.out; subst this; rfl, HB0.out.trans (HB5.out.mono (by have := HZ0.out; omega))⟩
    · have HZF : Hid (firstErr (es.map Ent.says) = 0) := by
        show _ = _
        rw [← HFE.out, List.drop_of_length_le (by simp; omega)]; rfl
      have HR2 : Hid (R = if goesE ix lt (es.map Ent.says) then 0 else 4) := by show _ = _; rw [← HR.out]; unfold ckList; rw [HZF.out]; rfl
      have hkn : k = es.length := by omega
      subst hkn
      have HBR : Hid (Below W0.heap.size W0 wr) := HB.out
      generalize wr = wq at *
      go_wp2_with fail
      have HXQ : Hid (wq.heap[G]? = some (.cells #[.int .i64 ix, .int .i64 lt] 76 (0, 0))) := (HBR.out.block G (by rw [HZ0.out]; omega)).trans HX0.out
      have HBQ : Hid (Below G w wq) := HB0.out.trans (HBR.out.mono (by have := HZ0.out; omega))
      have HEQ : Hid (EntsAt M wq va es) := HE.out.below (HBR.out.mono (by have := HZ0.out; have := HMG.out; omega))
      have HALL : Hid (∀ e ∈ es.map Ent.says, eCk e = 0) := firstErr_all.1 HZF.out
      clear HB HE HFE HBR hlt hk
      go_loopw [25] (fun iv wr => ∃ (k : Nat) (i2 t2 : Int), iv = .int .i64 (k : Int) ∧ k ≤ es.length ∧ goesE i2 t2 ((es.map Ent.says).drop k) = goesE ix lt (es.map Ent.says) ∧ wr.heap[G]? = some (.cells #[.int .i64 i2, .int .i64 t2] 76 (0, 0)) ∧ 0 ≤ i2 ∧ i2 ≤ 4611686018427387904 ∧ Below G w wr ∧ EntsAt M wr va es) (fun iv _ => es.length - (intOf iv).toNat)
      case atStart => exact ⟨0, ix, lt, rfl, Nat.zero_le _, rfl, HXQ.out, hix.1, hix.2, HBQ.out, HEQ.out⟩
      case round =>
        obtain ⟨k, i2, t2, rfl, hk, hgo, hx, hi0, hi1, hB, hEE⟩ := hrel
        have HGO : Hid (goesE i2 t2 ((es.map Ent.says).drop k) = goesE ix lt (es.map Ent.says)) := hgo
        have HX : Hid (wr.heap[G]? = some (.cells #[.int .i64 i2, .int .i64 t2] 76 (0, 0))) := hx
        have HB : Hid (Below G w wr) := hB
        have HEE : Hid (EntsAt M wr va es) := hEE
        have hGw : G < wr.heap.size := (Array.getElem?_eq_some_iff.1 hx).1
        clear hgo hx hB hEE HXQ HBQ HEQ HB0 HX0 HW0 HZ0
        by_cases hlt : k < es.length
        · obtain ⟨b, off, hea, hbM, he⟩ := HEE.out.at hlt
          subst hea
          have HD : Hid ((es.map Ent.says).drop k = (es.getD k nilEnt).says :: (es.map Ent.says).drop (k + 1)) := saysdrop hlt
          have hck := eCk_ok (HALL.out (es.getD k nilEnt).says (List.mem_map.2 ⟨_, by rw [List.getD_eq_getElem?_getD, List.getElem?_eq_getElem hlt]; exact List.getElem_mem hlt, rfl⟩))
          generalize es.getD k nilEnt = e at *
          obtain ⟨et, ei, ek, eaa, ecc, ed⟩ := e
          obtain ⟨c0, c1, c2, c3, -⟩ := he
          unfold Ent.x at c3
          simp only at c0 c1 c2 c3
          obtain ⟨-, -, hei1, hei2, -⟩ := hck
          have hei1' : 1 ≤ ei := hei1
          have hei2' : ei ≤ 4611686018427387904 := hei2
          obtain ⟨⟨p0, p1⟩, f0, f1⟩ := cells2 HX.out
          have hbw : b < wr.heap.size := by have := HB.out.size; have := HG.out; have := HMG.out; omega
          have HG1 : Hid (goesE i2 t2 ((es.map Ent.says).drop k) = ((ei == i2 + 1) && decide (t2 ≤ et) && goesE ei et ((es.map Ent.says).drop (k + 1)))) := by
            show _ = _
            rw [HD.out]; rfl
          have HBA : Hid (Below G w (wr.alloc (.cells #[.int .i64 et, .int .i64 ei, .int .i64 ek, .slice eaa ed.length ecc] 40))) := HB.out.alloc (by have := HB.out.size; have := HG.out; omega) _
          clear hei1 hei2
          by_cases h1 : ei = i2 + 1
          · by_cases h2 : t2 ≤ et
            · have h1' : (ei != i2 + 1) = false := by simpa using h1
              have h2' : ¬ et < t2 := by omega
              have h2'' : decide (et < t2) = false := by simpa using h2
              have HG2 : Hid (goesE ei et ((es.map Ent.says).drop (k + 1)) = goesE ix lt (es.map Ent.says)) := by
                show _ = _
                rw [← HGO.out, HG1.out]; simp [h1, h2]
              have HH1 : Hid (ei = i2 + 1) := h1
              clear h1
              go_wp2
              have hO1 : Out (fun j => j = G) wr (((wr.setCell ⟨G, 0, none⟩ (.int .i64 ei)).setCell ⟨G, 1, none⟩ (.int .i64 et)).alloc (.cells #[.int .i64 et, .int .i64 ei, .int .i64 ek, .slice eaa ed.length ecc] 40)) :=
                (((Out.refl (fun j => j = G) wr).put rfl).put rfl).alloc _
              have hBG : Below G wr (((wr.setCell ⟨G, 0, none⟩ (.int .i64 ei)).setCell ⟨G, 1, none⟩ (.int .i64 et)).alloc (.cells #[.int .i64 et, .int .i64 ei, .int .i64 ek, .slice eaa ed.length ecc] 40)) := hO1.below (by omega) (fun j hj => by have : j = G := hj; omega)
              have hXE : (((wr.setCell ⟨G, 0, none⟩ (.int .i64 ei)).setCell ⟨G, 1, none⟩ (.int .i64 et)).alloc (.cells #[.int .i64 et, .int .i64 ei, .int .i64 ek, .slice eaa ed.length ecc] 40)).heap[G]? = some (.cells #[.int .i64 ei, .int .i64 et] 76 (0, 0)) := (heap_alloc_old _ _ (by simp [World.setCell]; exact hGw)).trans (set2 HX.out _ _)
              exact ⟨⟨k + 1, ei, et, by go_num, by omega, HG2.out, hXE, by omega, hei2', HB.out.trans hBG, HEE.out.below (hBG.mono HMG.out)⟩, by simp [intOf]; omega⟩
            · have h1' : (ei != i2 + 1) = false := by simpa using h1
              have h2' : et < t2 := by omega
              have h2'' : decide (et < t2) = true := by simpa using h2'
              have HR3 : Hid (R = 4) := by
                show _ = _
                rw [HR2.out, ← HGO.out, HG1.out]; simp [h2]
              have HH1 : Hid (ei = i2 + 1) := h1
              clear h1
              go_wp2
              go_returns
              exact ⟨by have := HR3.out; subst this; rfl, HBA.out⟩
          · have h1' : (ei != i2 + 1) = true := by simpa using h1
            have HR3 : Hid (R = 4) := by
              show _ = _
              rw [HR2.out, ← HGO.out, HG1.out]; simp [h1]
            clear h1
            go_wp2
            go_returns
            exact ⟨by have := HR3.out; subst this; rfl, HBA.out⟩
        · have HR3 : Hid (R = 0) := by
            show _ = _
            rw [HR2.out, ← HGO.out, List.drop_of_length_le (by simp; omega)]; rfl
          go_wp2
          go_returns
          exact ⟨by have := HR3.out; subst this; rfl, HB.out⟩

/-- May an entry stand there? -/
def isPl (i t : Int) : Bool := decide (1 ≤ i) && decide (i ≤ 4611686018427387904) && decide (1 ≤ t) && decide (t ≤ 4611686018427387904)
def isBs (i t : Int) : Bool := ((i == 0) && (t == 0)) || isPl i t

set_option maxRecDepth 100000 in
set_option maxHeartbeats 1000000 in
theorem isPlace_any (i t : Int) (w : World) : Calls Try.prog 79 #[.agg #[.int .i64 i, .int .i64 t]] w fun e w' => e = .returned (.bool (isPl i t)) ∧ Below w.heap.size w w' := by
  have HB : Hid (∀ o, Below w.heap.size w (w.alloc o)) := fun _ => (Below.refl _ w).alloc (Nat.le_refl _) _
  unfold isPl
  go_enter Try.func79, Try.ntmps79
  go_wp2
  all_goals
    go_ret
    refine ⟨?_, HB.out _⟩
    first
    | (simp_all; done)
    | (simp_all; intros; omega)

set_option maxRecDepth 100000 in
set_option maxHeartbeats 1000000 in
theorem isBase_any (i t : Int) (w : World) : Calls Try.prog 80 #[.agg #[.int .i64 i, .int .i64 t]] w fun e w' => e = .returned (.bool (isBs i t)) ∧ Below w.heap.size w w' := by
  have hB : Below w.heap.size w (w.alloc (.cells #[.int .i64 i, .int .i64 t] 76)) := (Below.refl _ w).alloc (Nat.le_refl _) _
  by_cases h1 : i = 0
  · subst h1
    by_cases h2 : t = 0
    · subst h2
      have e : isBs 0 0 = true := by simp [isBs]
      rw [e]
      go_enter Try.func80, Try.ntmps80
      go_wp2
      go_ret
      exact ⟨rfl, hB⟩
    · have e : isBs 0 t = isPl 0 t := by simp [isBs, h2]
      have h2' : (t == 0) = false := by simpa using h2
      rw [e]
      have hp := isPlace_any 0 t (w.alloc (.cells #[.int .i64 0, .int .i64 t] 76))
      clear h2 e
      go_enter Try.func80, Try.ntmps80
      go_wp2_with (go_at_call 79; refine hp.mono ?_; rintro r w1 ⟨rfl, hB1⟩; have hB2 : Below w.heap.size w w1 := hB.trans (hB1.mono hB.size); clear hB1)
      go_ret
      exact ⟨rfl, hB2⟩
  · have e : isBs i t = isPl i t := by simp [isBs, h1]
    have h2' : (i == 0) = false := by simpa using h1
    rw [e]
    have hp := isPlace_any i t (w.alloc (.cells #[.int .i64 i, .int .i64 t] 76))
    clear h1 e
    go_enter Try.func80, Try.ntmps80
    go_wp2_with (go_at_call 79; refine hp.mono ?_; rintro r w1 ⟨rfl, hB1⟩; have hB2 : Below w.heap.size w w1 := hB.trans (hB1.mono hB.size); clear hB1)
    go_ret
    exact ⟨rfl, hB2⟩

/-- checkNew's answer. -/
def ckNew (i t : Int) (E : List En) : Nat := if isBs i t = false then 1 else if ckList i t E ≠ 0 then ckList i t E else if 10000 < E.length then 10 else 0

theorem isBs_num {i t : Int} (h : isBs i t = true) : 0 ≤ i ∧ i ≤ 4611686018427387904 := by
  unfold isBs isPl at h
  simp at h
  omega

set_option maxRecDepth 100000 in
set_option maxHeartbeats 1000000 in
theorem checkNew_any (i t : Int) (va : Option Addr) (vc : Nat) (es : List Ent) (M : Nat) (w : World) (hE : EntsAt M w va es) (hM : M ≤ w.heap.size) (hn : es.length ≤ 100000) :
    Calls Try.prog 41 #[.agg #[.int .i64 i, .int .i64 t], .slice va es.length vc] w fun e w' => e = .returned (.int .i64 (ckNew i t (es.map Ent.says) : Int)) ∧ Below w.heap.size w w' := by
  have hB : Below w.heap.size w (w.alloc (.cells #[.int .i64 i, .int .i64 t] 76)) := (Below.refl _ w).alloc (Nat.le_refl _) _
  have hX : (w.alloc (.cells #[.int .i64 i, .int .i64 t] 76)).heap[w.heap.size]? = some (.cells #[.int .i64 i, .int .i64 t] 76 (0, 0)) := heap_alloc_new w _
  have hib := isBase_any i t (w.alloc (.cells #[.int .i64 i, .int .i64 t] 76))
  have HC : Hid (∀ w1, Below (w.alloc (.cells #[.int .i64 i, .int .i64 t] 76)).heap.size (w.alloc (.cells #[.int .i64 i, .int .i64 t] 76)) w1 → (w1.cell? ⟨w.heap.size, 0, none⟩ = some (.int .i64 i) ∧ w1.cell? ⟨w.heap.size, 1, none⟩ = some (.int .i64 t)) ∧ Below w.heap.size w w1) := fun w1 h1 => ⟨(cells2 ((h1.block _ (by simp)).trans hX)).1, hB.trans (h1.mono (by simp))⟩
  obtain ⟨R, HR⟩ : ∃ R, Hid (ckNew i t (es.map Ent.says) = R) := ⟨_, rfl⟩
  rw [HR.out]
  by_cases h1 : isBs i t = true
  · rw [h1] at hib
    have HCE : Hid (∀ w1, Below w.heap.size w w1 → Calls Try.prog 73 #[.agg #[.int .i64 i, .int .i64 t], .slice va es.length vc] w1 fun e w' => e = .returned (.int .i64 (ckList i t (es.map Ent.says) : Int)) ∧ Below w1.heap.size w1 w') := fun w1 hB1 => checkEntries_any i t va vc es M w1 (hE.below (hB1.mono hM)) (by have := hB1.size; omega) (by omega) (isBs_num h1)
    by_cases h2 : ckList i t (es.map Ent.says) = 0
    · rw [h2] at HCE
      by_cases h3 : 10000 < es.length
      · have HR2 : Hid (R = 10) := by show _ = _; rw [← HR.out]; simp [ckNew, h1, h2, h3]
        have h3' : (10000 : Int) < (es.length : Int) := by omega
        clear hE h1 h2 hX
        go_enter Try.func41, Try.ntmps41
        go_wp2_with (first
          | (go_at_call 80; refine hib.mono ?_; rintro r w1 ⟨rfl, hB1⟩; obtain ⟨⟨q0, q1⟩, hB2⟩ := HC.out w1 hB1; clear hB1)
          | (go_at_call 73; refine (HCE.out _ hB2).mono ?_; rintro r w3 ⟨rfl, hB3⟩; have hB4 := hB2.trans (hB3.mono hB2.size); clear hB3))
        go_ret
        exact ⟨by have := HR2.out; subst this; rfl, hB4⟩
      · have HR2 : Hid (R = 0) := by show _ = _; rw [← HR.out]; simp [ckNew, h1, h2, h3]
        have h3' : (es.length : Int) ≤ 10000 := by omega
        clear hE h1 h2 hX
        go_enter Try.func41, Try.ntmps41
        go_wp2_with (first
          | (go_at_call 80; refine hib.mono ?_; rintro r w1 ⟨rfl, hB1⟩; obtain ⟨⟨q0, q1⟩, hB2⟩ := HC.out w1 hB1; clear hB1)
          | (go_at_call 73; refine (HCE.out _ hB2).mono ?_; rintro r w3 ⟨rfl, hB3⟩; have hB4 := hB2.trans (hB3.mono hB2.size); clear hB3))
        go_ret
        exact ⟨by have := HR2.out; subst this; rfl, hB4⟩
    · have HR2 : Hid (R = ckList i t (es.map Ent.says)) := by show _ = _; rw [← HR.out]; simp [ckNew, h1, h2]
      generalize ckList i t (es.map Ent.says) = q at *
      have h2' : ((q : Int) != 0) = true := by simp; omega
      clear hE h1 h2 hX
      go_enter Try.func41, Try.ntmps41
      go_wp2_with (first
        | (go_at_call 80; refine hib.mono ?_; rintro r w1 ⟨rfl, hB1⟩; obtain ⟨⟨q0, q1⟩, hB2⟩ := HC.out w1 hB1; clear hB1)
        | (go_at_call 73; refine (HCE.out _ hB2).mono ?_; rintro r w3 ⟨rfl, hB3⟩; have hB4 := hB2.trans (hB3.mono hB2.size); clear hB3))
      go_ret
      exact ⟨by have := HR2.out; subst this; rfl, hB4⟩
  · have h1' : isBs i t = false := by simpa using h1
    rw [h1'] at hib
    have HR2 : Hid (R = 1) := by show _ = _; rw [← HR.out]; simp [ckNew, h1']
    clear hE h1 h1' hX
    go_enter Try.func41, Try.ntmps41
    go_wp2_with (go_at_call 80; refine hib.mono ?_; rintro r w1 ⟨rfl, hB1⟩; obtain ⟨⟨q0, q1⟩, hB2⟩ := HC.out w1 hB1; clear hB1)
    go_ret
    exact ⟨by have := HR2.out; subst this; rfl, hB2⟩

/-- The log that New makes. -/
def newP (i t c : Int) (E : List En) : PL := ⟨i, t, E, i + (E.length : Int), i + (E.length : Int), min (max c i) (i + (E.length : Int)), i, i⟩
theorem goesE_spec : ∀ (E : List En) (ix lt : Int), goesE ix lt E = true ↔ (∀ k, k < E.length → eI (E.getD k nilEn) = ix + 1 + (k : Int)) ∧ (∀ k, k < E.length → (if k = 0 then lt else eT (E.getD (k - 1) nilEn)) ≤ eT (E.getD k nilEn))
  | [], ix, lt => by simp [goesE]
  | e :: r, ix, lt => by
    rw [goesE, Bool.and_eq_true, Bool.and_eq_true, goesE_spec r (eI e) (eT e)]
    simp only [beq_iff_eq, decide_eq_true_eq]
    constructor
    · rintro ⟨⟨h1, h2⟩, h3, h4⟩
      refine ⟨fun k hk => ?_, fun k hk => ?_⟩
      · cases k with
        | zero => simp [h1]
        | succ k =>
          have := h3 k (by simpa using hk)
          simp only [List.getD_cons_succ]
          omega
      · cases k with
        | zero => simpa using h2
        | succ k =>
          have := h4 k (by simpa using hk)
          simp only [List.getD_cons_succ, Nat.add_sub_cancel]
          rw [if_neg (by omega)]
          cases k with
          | zero => simpa using this
          | succ k => simpa using this
    · rintro ⟨h1, h2⟩
      have a1 := h1 0 (by simp)
      have a2 := h2 0 (by simp)
      simp at a1 a2
      refine ⟨⟨a1, a2⟩, fun k hk => ?_, fun k hk => ?_⟩
      · have := h1 (k + 1) (by simpa using hk)
        simp only [List.getD_cons_succ] at this
        omega
      · have := h2 (k + 1) (by simpa using hk)
        simp only [List.getD_cons_succ, Nat.add_sub_cancel] at this
        rw [if_neg (by omega)] at this
        cases k with
        | zero => simpa using this
        | succ k => simpa using this
theorem newP_ok {i t c : Int} {E : List En} (h : ckNew i t E = 0) : (newP i t c E).Ok := by
  unfold ckNew at h
  by_cases h1 : isBs i t = true
  · rw [h1, if_neg (by simp)] at h
    by_cases h2 : ckList i t E = 0
    · rw [h2, if_neg (by simp)] at h
      by_cases h3 : 10000 < E.length
      · rw [if_pos h3] at h; omega
      · have hl : firstErr E = 0 ∧ goesE i t E = true := by
          unfold ckList at h2
          by_cases hf : firstErr E = 0
          · rw [hf, if_neg (by simp)] at h2
            refine ⟨hf, ?_⟩
            by_cases hg : goesE i t E = true
            · exact hg
            · rw [if_neg hg] at h2; omega
          · rw [if_pos hf] at h2; exact absurd h2 hf
        obtain ⟨hf, hg⟩ := hl
        obtain ⟨g1, g2⟩ := (goesE_spec E i t).1 hg
        have hb : (i = 0 ∧ t = 0) ∨ (1 ≤ i ∧ i ≤ 4611686018427387904 ∧ 1 ≤ t ∧ t ≤ 4611686018427387904) := by
          unfold isBs isPl at h1; simp at h1; omega
        refine ⟨hb, firstErr_all.1 hf, g1, fun k hk => ?_, by show E.length ≤ 10000; omega, ?_, ?_, ?_, ?_, ?_, ?_, ?_⟩
        · have e1 : (newP i t c E).tm ((newP i t c E).bi + (k : Int) + 1) = eT (E.getD k nilEn) := by
            have := PL.tm_ent (newP i t c E) (k := k)
            rw [show (newP i t c E).bi + (k : Int) + 1 = (newP i t c E).bi + 1 + (k : Int) by omega]
            exact this
          rw [e1]
          have := g2 k hk
          cases k with
          | zero =>
            rw [if_pos rfl] at this
            rw [show (newP i t c E).bi + ((0 : Nat) : Int) = (newP i t c E).bi by simp, PL.tm_base]
            exact this
          | succ k =>
            rw [if_neg (by omega)] at this
            have e2 : (newP i t c E).tm ((newP i t c E).bi + ((k + 1 : Nat) : Int)) = eT (E.getD k nilEn) := by
              have := PL.tm_ent (newP i t c E) (k := k)
              rw [show (newP i t c E).bi + ((k + 1 : Nat) : Int) = (newP i t c E).bi + 1 + (k : Int) by omega]
              exact this
            rw [e2]
            simpa using this
        all_goals simp only [newP, PL.li]
        all_goals omega
    · rw [if_pos h2] at h; exact absurd h h2
  · have h1' : isBs i t = false := by simpa using h1
    rw [h1', if_pos rfl] at h; omega

set_option maxRecDepth 100000 in
set_option maxHeartbeats 2000000 in
/-- New, of what may not be. -/
theorem New_no (i t c : Int) (va : Option Addr) (vc : Nat) (es : List Ent) (M : Nat) (w : World) (hE : EntsAt M w va es) (hM : M ≤ w.heap.size) (hn : es.length ≤ 100000) (hk : ckNew i t (es.map Ent.says) ≠ 0) :
    Calls Try.prog 11 #[.int .i64 i, .int .i64 t, .int .i64 c, .slice va es.length vc] w fun e w' => e = .returned (.tuple #[.pointer none, .int .i64 (ckNew i t (es.map Ent.says) : Int)]) ∧ Below w.heap.size w w' := by
  have hB : Below w.heap.size w (w.alloc (.cells #[.int .i64 i, .int .i64 t] 76)) := (Below.refl _ w).alloc (Nat.le_refl _) _
  have hck := checkNew_any i t va vc es M (w.alloc (.cells #[.int .i64 i, .int .i64 t] 76)) (hE.below (hB.mono hM)) (by simp; omega) hn
  clear hE
  generalize ckNew i t (es.map Ent.says) = q at *
  have h2' : ((q : Int) != 0) = true := by simp; omega
  go_enter Try.func11, Try.ntmps11
  go_wp2_with (go_at_call 41; refine hck.mono ?_; rintro r w1 ⟨rfl, hB1⟩; have hB2 := hB.trans (hB1.mono hB.size); clear hB1)
  go_returns
  exact ⟨rfl, hB2⟩

end Go.Proofs.Yteekpfgjpdopmaa
