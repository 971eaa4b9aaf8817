/-
  An event's line. The document's words of a reply. The document's line of an event.
-/
import Derived.Test.YtbckogojnjmjcaaGreatDoorJea
import Derived.Test.YtbckogojnjmjcaaGreatDoorW5x
namespace Go.Proofs.YtbckogojnjmjcaaGreatDoor
open Go.RowKit Go.Shelf

/-- A number in its range. -/
def InZ (n : Int) : Prop := -9223372036854775808 ≤ n ∧ n ≤ 9223372036854775807
theorem tell2_any (wd : Bs) (hw : wd.length ≤ 1000) (a b : Int) (ha : InZ a) (hb : InZ b) (w : World) (hv : Vars w) : Calls Tryz.prog 61 #[.string ⟨wd.toArray⟩, .slice (some ⟨w.heap.size, 0, none⟩) 2 2] (w.alloc (.cells #[.int .i64 a, .int .i64 b] 3)) fun e w' => e = .returned (.string ⟨(tellL wd [a, b]).toArray⟩) ∧ Below w.heap.size w w' := by
  have hB : Below w.heap.size w (w.alloc (.cells #[.int .i64 a, .int .i64 b] 3)) := (Below.refl _ _).alloc (Nat.le_refl _) _
  have hh : (w.alloc (.cells #[.int .i64 a, .int .i64 b] 3)).heap[w.heap.size]? = some (.cells #[.int .i64 a, .int .i64 b] 3 (0, 0)) := heap_alloc_new w _
  refine (tell_any wd hw [a, b] (by simp) (fun n hn => ?_) _ _ (hv.below hB) ⟨w.heap.size, 2, rfl, by simp, fun j hj => ?_⟩).mono ?_
  · simp only [List.mem_cons, List.not_mem_nil, or_false] at hn
    rcases hn with rfl | rfl
    · exact ha
    · exact hb
  · have hj2 : j < 2 := hj
    have : j = 0 ∨ j = 1 := by omega
    simp only [World.cell?, hh]
    rcases this with rfl | rfl <;> rfl
  · rintro e w' ⟨h1, h2⟩
    exact ⟨h1, hB.trans (h2.mono (by simp))⟩
theorem tell1_any (wd : Bs) (hw : wd.length ≤ 1000) (a : Int) (ha : InZ a) (w : World) (hv : Vars w) : Calls Tryz.prog 61 #[.string ⟨wd.toArray⟩, .slice (some ⟨w.heap.size, 0, none⟩) 1 1] (w.alloc (.cells #[.int .i64 a] 3)) fun e w' => e = .returned (.string ⟨(tellL wd [a]).toArray⟩) ∧ Below w.heap.size w w' := by
  have hB : Below w.heap.size w (w.alloc (.cells #[.int .i64 a] 3)) := (Below.refl _ _).alloc (Nat.le_refl _) _
  have hh : (w.alloc (.cells #[.int .i64 a] 3)).heap[w.heap.size]? = some (.cells #[.int .i64 a] 3 (0, 0)) := heap_alloc_new w _
  refine (tell_any wd hw [a] (by simp) (fun n hn => ?_) _ _ (hv.below hB) ⟨w.heap.size, 1, rfl, by simp, fun j hj => ?_⟩).mono ?_
  · cases List.mem_singleton.1 hn
    exact ha
  · have hj1 : j < 1 := hj
    have : j = 0 := by omega
    simp only [World.cell?, hh]
    subst this
    rfl
  · rintro e w' ⟨h1, h2⟩
    exact ⟨h1, hB.trans (h2.mono (by simp))⟩
/-- An event, plainly. -/
structure Ev where
  kind : Int
  node : Int
  client : Int
  number : Int
  code : Int
  val : Bs
def Ev.cells (e : Ev) : Array Value := #[.int .i64 e.kind, .int .i64 e.node, .int .i64 e.client, .int .i64 e.number, .int .i64 e.code, .string ⟨e.val.toArray⟩]
structure EvOk (e : Ev) : Prop where
  node : InZ e.node
  client : InZ e.client
  number : InZ e.number
  val : e.val.length ≤ 2000000
/-- Its line. -/
def evL (e : Ev) : Bs :=
  if e.kind = 1 then tellL [115, 101, 110, 100] [e.node, e.number]
  else if e.kind = 2 then tellL [115, 121, 110, 99] [e.node, e.number]
  else if e.kind = 3 then tellL [97, 112, 112, 108, 121] [e.node, e.number]
  else if e.kind = 5 then tellL [115, 110, 97, 112] [e.node, e.number]
  else if e.kind = 6 then tellL [100, 111, 119, 110] [e.node]
  else if e.kind = 7 then tellL [101, 110, 100] [e.node, e.number]
  else if e.kind = 8 then tellL [98, 97, 99, 107] [e.client, e.node] ++ [32] ++ repL e.code e.val
  else [63]
set_option maxRecDepth 100000 in
set_option maxHeartbeats 4000000 in
theorem ev1_any (e : Ev) (he : EvOk e) (hk : e.kind = 1) (w : World) (hv : Vars w) : Calls Tryz.prog 25 #[.agg e.cells] w fun r w' => r = .returned (.string ⟨(evL e).toArray⟩) ∧ Below w.heap.size w w' := by
  have hrn := he.node
  have hrc := he.client
  have hru := he.number
  have hvl := he.val
  obtain ⟨kind, node, client, number, code, val⟩ := e
  simp only at hk hrn hrc hru hvl
  obtain ⟨W0, hW0⟩ : ∃ W0, w.alloc (.cells #[.int .i64 kind, .int .i64 node, .int .i64 client, .int .i64 number, .int .i64 code, .string ⟨val.toArray⟩] 74) = W0 := ⟨_, rfl⟩
  have HB0 : Hid (Below w.heap.size w W0) := by show Below _ _ _; rw [← hW0]; exact (Below.refl _ _).alloc (Nat.le_refl _) _
  have hX0 : W0.heap[w.heap.size]? = some (.cells #[.int .i64 kind, .int .i64 node, .int .i64 client, .int .i64 number, .int .i64 code, .string ⟨val.toArray⟩] 74 (0, 0)) := by rw [← hW0]; exact heap_alloc_new w _
  have c0 : W0.cell? ⟨w.heap.size, 0, none⟩ = some (.int .i64 kind) := by simp only [World.cell?, hX0]; rfl
  have c1 : W0.cell? ⟨w.heap.size, 1, none⟩ = some (.int .i64 node) := by simp only [World.cell?, hX0]; rfl
  have c2 : W0.cell? ⟨w.heap.size, 2, none⟩ = some (.int .i64 client) := by simp only [World.cell?, hX0]; rfl
  have c3 : W0.cell? ⟨w.heap.size, 3, none⟩ = some (.int .i64 number) := by simp only [World.cell?, hX0]; rfl
  have HW0 : Hid (_ = W0) := hW0
  have HX0 : Hid _ := hX0
  have hv0 := hv.below HB0.out
  unfold Ev.cells
  have HE : Hid (evL ⟨kind, node, client, number, code, val⟩ = tellL [115, 101, 110, 100] [node, number]) := by show _ = _; unfold evL; simp [hk]
  have HT := tell2_any [115, 101, 110, 100] (by decide) node number hrn hru W0 hv0
  subst hk
  clear hW0 hX0 hv hv0
  go_enter Tryz.func25, Tryz.ntmps25
  go_upto_region 1 with fail
  rw [HW0.out]
  go_wp2_with (go_at_call 61; refine HT.mono ?_; rintro r w5 ⟨rfl, hB5⟩)
  go_ret
  exact ⟨by rw [HE.out]; rfl, HB0.out.trans (hB5.mono HB0.out.size)⟩
set_option maxRecDepth 100000 in
set_option maxHeartbeats 4000000 in
theorem ev2_any (e : Ev) (he : EvOk e) (hk : e.kind = 2) (w : World) (hv : Vars w) : Calls Tryz.prog 25 #[.agg e.cells] w fun r w' => r = .returned (.string ⟨(evL e).toArray⟩) ∧ Below w.heap.size w w' := by
  have hrn := he.node
  have hrc := he.client
  have hru := he.number
  have hvl := he.val
  obtain ⟨kind, node, client, number, code, val⟩ := e
  simp only at hk hrn hrc hru hvl
  obtain ⟨W0, hW0⟩ : ∃ W0, w.alloc (.cells #[.int .i64 kind, .int .i64 node, .int .i64 client, .int .i64 number, .int .i64 code, .string ⟨val.toArray⟩] 74) = W0 := ⟨_, rfl⟩
  have HB0 : Hid (Below w.heap.size w W0) := by show Below _ _ _; rw [← hW0]; exact (Below.refl _ _).alloc (Nat.le_refl _) _
  have hX0 : W0.heap[w.heap.size]? = some (.cells #[.int .i64 kind, .int .i64 node, .int .i64 client, .int .i64 number, .int .i64 code, .string ⟨val.toArray⟩] 74 (0, 0)) := by rw [← hW0]; exact heap_alloc_new w _
  have c0 : W0.cell? ⟨w.heap.size, 0, none⟩ = some (.int .i64 kind) := by simp only [World.cell?, hX0]; rfl
  have c1 : W0.cell? ⟨w.heap.size, 1, none⟩ = some (.int .i64 node) := by simp only [World.cell?, hX0]; rfl
  have c2 : W0.cell? ⟨w.heap.size, 2, none⟩ = some (.int .i64 client) := by simp only [World.cell?, hX0]; rfl
  have c3 : W0.cell? ⟨w.heap.size, 3, none⟩ = some (.int .i64 number) := by simp only [World.cell?, hX0]; rfl
  have HW0 : Hid (_ = W0) := hW0
  have HX0 : Hid _ := hX0
  have hv0 := hv.below HB0.out
  unfold Ev.cells
  have HE : Hid (evL ⟨kind, node, client, number, code, val⟩ = tellL [115, 121, 110, 99] [node, number]) := by show _ = _; unfold evL; simp [hk]
  have HT := tell2_any [115, 121, 110, 99] (by decide) node number hrn hru W0 hv0
  subst hk
  clear hW0 hX0 hv hv0
  go_enter Tryz.func25, Tryz.ntmps25
  go_upto_region 1 with fail
  rw [HW0.out]
  go_wp2_with (go_at_call 61; refine HT.mono ?_; rintro r w5 ⟨rfl, hB5⟩)
  go_ret
  exact ⟨by rw [HE.out]; rfl, HB0.out.trans (hB5.mono HB0.out.size)⟩
set_option maxRecDepth 100000 in
set_option maxHeartbeats 4000000 in
theorem ev3_any (e : Ev) (he : EvOk e) (hk : e.kind = 3) (w : World) (hv : Vars w) : Calls Tryz.prog 25 #[.agg e.cells] w fun r w' => r = .returned (.string ⟨(evL e).toArray⟩) ∧ Below w.heap.size w w' := by
  have hrn := he.node
  have hrc := he.client
  have hru := he.number
  have hvl := he.val
  obtain ⟨kind, node, client, number, code, val⟩ := e
  simp only at hk hrn hrc hru hvl
  obtain ⟨W0, hW0⟩ : ∃ W0, w.alloc (.cells #[.int .i64 kind, .int .i64 node, .int .i64 client, .int .i64 number, .int .i64 code, .string ⟨val.toArray⟩] 74) = W0 := ⟨_, rfl⟩
  have HB0 : Hid (Below w.heap.size w W0) := by show Below _ _ _; rw [← hW0]; exact (Below.refl _ _).alloc (Nat.le_refl _) _
  have hX0 : W0.heap[w.heap.size]? = some (.cells #[.int .i64 kind, .int .i64 node, .int .i64 client, .int .i64 number, .int .i64 code, .string ⟨val.toArray⟩] 74 (0, 0)) := by rw [← hW0]; exact heap_alloc_new w _
  have c0 : W0.cell? ⟨w.heap.size, 0, none⟩ = some (.int .i64 kind) := by simp only [World.cell?, hX0]; rfl
  have c1 : W0.cell? ⟨w.heap.size, 1, none⟩ = some (.int .i64 node) := by simp only [World.cell?, hX0]; rfl
  have c2 : W0.cell? ⟨w.heap.size, 2, none⟩ = some (.int .i64 client) := by simp only [World.cell?, hX0]; rfl
  have c3 : W0.cell? ⟨w.heap.size, 3, none⟩ = some (.int .i64 number) := by simp only [World.cell?, hX0]; rfl
  have HW0 : Hid (_ = W0) := hW0
  have HX0 : Hid _ := hX0
  have hv0 := hv.below HB0.out
  unfold Ev.cells
  have HE : Hid (evL ⟨kind, node, client, number, code, val⟩ = tellL [97, 112, 112, 108, 121] [node, number]) := by show _ = _; unfold evL; simp [hk]
  have HT := tell2_any [97, 112, 112, 108, 121] (by decide) node number hrn hru W0 hv0
  subst hk
  clear hW0 hX0 hv hv0
  go_enter Tryz.func25, Tryz.ntmps25
  go_upto_region 1 with fail
  rw [HW0.out]
  go_wp2_with (go_at_call 61; refine HT.mono ?_; rintro r w5 ⟨rfl, hB5⟩)
  go_ret
  exact ⟨by rw [HE.out]; rfl, HB0.out.trans (hB5.mono HB0.out.size)⟩
set_option maxRecDepth 100000 in
set_option maxHeartbeats 4000000 in
theorem ev5_any (e : Ev) (he : EvOk e) (hk : e.kind = 5) (w : World) (hv : Vars w) : Calls Tryz.prog 25 #[.agg e.cells] w fun r w' => r = .returned (.string ⟨(evL e).toArray⟩) ∧ Below w.heap.size w w' := by
  have hrn := he.node
  have hrc := he.client
  have hru := he.number
  have hvl := he.val
  obtain ⟨kind, node, client, number, code, val⟩ := e
  simp only at hk hrn hrc hru hvl
  obtain ⟨W0, hW0⟩ : ∃ W0, w.alloc (.cells #[.int .i64 kind, .int .i64 node, .int .i64 client, .int .i64 number, .int .i64 code, .string ⟨val.toArray⟩] 74) = W0 := ⟨_, rfl⟩
  have HB0 : Hid (Below w.heap.size w W0) := by show Below _ _ _; rw [← hW0]; exact (Below.refl _ _).alloc (Nat.le_refl _) _
  have hX0 : W0.heap[w.heap.size]? = some (.cells #[.int .i64 kind, .int .i64 node, .int .i64 client, .int .i64 number, .int .i64 code, .string ⟨val.toArray⟩] 74 (0, 0)) := by rw [← hW0]; exact heap_alloc_new w _
  have c0 : W0.cell? ⟨w.heap.size, 0, none⟩ = some (.int .i64 kind) := by simp only [World.cell?, hX0]; rfl
  have c1 : W0.cell? ⟨w.heap.size, 1, none⟩ = some (.int .i64 node) := by simp only [World.cell?, hX0]; rfl
  have c2 : W0.cell? ⟨w.heap.size, 2, none⟩ = some (.int .i64 client) := by simp only [World.cell?, hX0]; rfl
  have c3 : W0.cell? ⟨w.heap.size, 3, none⟩ = some (.int .i64 number) := by simp only [World.cell?, hX0]; rfl
  have HW0 : Hid (_ = W0) := hW0
  have HX0 : Hid _ := hX0
  have hv0 := hv.below HB0.out
  unfold Ev.cells
  have HE : Hid (evL ⟨kind, node, client, number, code, val⟩ = tellL [115, 110, 97, 112] [node, number]) := by show _ = _; unfold evL; simp [hk]
  have HT := tell2_any [115, 110, 97, 112] (by decide) node number hrn hru W0 hv0
  subst hk
  clear hW0 hX0 hv hv0
  go_enter Tryz.func25, Tryz.ntmps25
  go_upto_region 1 with fail
  rw [HW0.out]
  go_wp2_with (go_at_call 61; refine HT.mono ?_; rintro r w5 ⟨rfl, hB5⟩)
  go_ret
  exact ⟨by rw [HE.out]; rfl, HB0.out.trans (hB5.mono HB0.out.size)⟩
set_option maxRecDepth 100000 in
set_option maxHeartbeats 4000000 in
theorem ev6_any (e : Ev) (he : EvOk e) (hk : e.kind = 6) (w : World) (hv : Vars w) : Calls Tryz.prog 25 #[.agg e.cells] w fun r w' => r = .returned (.string ⟨(evL e).toArray⟩) ∧ Below w.heap.size w w' := by
  have hrn := he.node
  have hrc := he.client
  have hru := he.number
  have hvl := he.val
  obtain ⟨kind, node, client, number, code, val⟩ := e
  simp only at hk hrn hrc hru hvl
  obtain ⟨W0, hW0⟩ : ∃ W0, w.alloc (.cells #[.int .i64 kind, .int .i64 node, .int .i64 client, .int .i64 number, .int .i64 code, .string ⟨val.toArray⟩] 74) = W0 := ⟨_, rfl⟩
  have HB0 : Hid (Below w.heap.size w W0) := by show Below _ _ _; rw [← hW0]; exact (Below.refl _ _).alloc (Nat.le_refl _) _
  have hX0 : W0.heap[w.heap.size]? = some (.cells #[.int .i64 kind, .int .i64 node, .int .i64 client, .int .i64 number, .int .i64 code, .string ⟨val.toArray⟩] 74 (0, 0)) := by rw [← hW0]; exact heap_alloc_new w _
  have c0 : W0.cell? ⟨w.heap.size, 0, none⟩ = some (.int .i64 kind) := by simp only [World.cell?, hX0]; rfl
  have c1 : W0.cell? ⟨w.heap.size, 1, none⟩ = some (.int .i64 node) := by simp only [World.cell?, hX0]; rfl
  have c2 : W0.cell? ⟨w.heap.size, 2, none⟩ = some (.int .i64 client) := by simp only [World.cell?, hX0]; rfl
  have c3 : W0.cell? ⟨w.heap.size, 3, none⟩ = some (.int .i64 number) := by simp only [World.cell?, hX0]; rfl
  have HW0 : Hid (_ = W0) := hW0
  have HX0 : Hid _ := hX0
  have hv0 := hv.below HB0.out
  unfold Ev.cells
  have HE : Hid (evL ⟨kind, node, client, number, code, val⟩ = tellL [100, 111, 119, 110] [node]) := by show _ = _; unfold evL; simp [hk]
  have HT := tell1_any [100, 111, 119, 110] (by decide) node hrn W0 hv0
  subst hk
  clear hW0 hX0 hv hv0
  go_enter Tryz.func25, Tryz.ntmps25
  go_upto_region 1 with fail
  rw [HW0.out]
  go_wp2_with (go_at_call 61; refine HT.mono ?_; rintro r w5 ⟨rfl, hB5⟩)
  go_ret
  exact ⟨by rw [HE.out]; rfl, HB0.out.trans (hB5.mono HB0.out.size)⟩
set_option maxRecDepth 100000 in
set_option maxHeartbeats 4000000 in
theorem ev7_any (e : Ev) (he : EvOk e) (hk : e.kind = 7) (w : World) (hv : Vars w) : Calls Tryz.prog 25 #[.agg e.cells] w fun r w' => r = .returned (.string ⟨(evL e).toArray⟩) ∧ Below w.heap.size w w' := by
  have hrn := he.node
  have hrc := he.client
  have hru := he.number
  have hvl := he.val
  obtain ⟨kind, node, client, number, code, val⟩ := e
  simp only at hk hrn hrc hru hvl
  obtain ⟨W0, hW0⟩ : ∃ W0, w.alloc (.cells #[.int .i64 kind, .int .i64 node, .int .i64 client, .int .i64 number, .int .i64 code, .string ⟨val.toArray⟩] 74) = W0 := ⟨_, rfl⟩
  have HB0 : Hid (Below w.heap.size w W0) := by show Below _ _ _; rw [← hW0]; exact (Below.refl _ _).alloc (Nat.le_refl _) _
  have hX0 : W0.heap[w.heap.size]? = some (.cells #[.int .i64 kind, .int .i64 node, .int .i64 client, .int .i64 number, .int .i64 code, .string ⟨val.toArray⟩] 74 (0, 0)) := by rw [← hW0]; exact heap_alloc_new w _
  have c0 : W0.cell? ⟨w.heap.size, 0, none⟩ = some (.int .i64 kind) := by simp only [World.cell?, hX0]; rfl
  have c1 : W0.cell? ⟨w.heap.size, 1, none⟩ = some (.int .i64 node) := by simp only [World.cell?, hX0]; rfl
  have c2 : W0.cell? ⟨w.heap.size, 2, none⟩ = some (.int .i64 client) := by simp only [World.cell?, hX0]; rfl
  have c3 : W0.cell? ⟨w.heap.size, 3, none⟩ = some (.int .i64 number) := by simp only [World.cell?, hX0]; rfl
  have HW0 : Hid (_ = W0) := hW0
  have HX0 : Hid _ := hX0
  have hv0 := hv.below HB0.out
  unfold Ev.cells
  have HE : Hid (evL ⟨kind, node, client, number, code, val⟩ = tellL [101, 110, 100] [node, number]) := by show _ = _; unfold evL; simp [hk]
  have HT := tell2_any [101, 110, 100] (by decide) node number hrn hru W0 hv0
  subst hk
  clear hW0 hX0 hv hv0
  go_enter Tryz.func25, Tryz.ntmps25
  go_upto_region 1 with fail
  rw [HW0.out]
  go_wp2_with (go_at_call 61; refine HT.mono ?_; rintro r w5 ⟨rfl, hB5⟩)
  go_ret
  exact ⟨by rw [HE.out]; rfl, HB0.out.trans (hB5.mono HB0.out.size)⟩
set_option maxRecDepth 100000 in
set_option maxHeartbeats 4000000 in
theorem evx_any (e : Ev) (he : EvOk e) (hk : e.kind ≠ 1 ∧ e.kind ≠ 2 ∧ e.kind ≠ 3 ∧ e.kind ≠ 5 ∧ e.kind ≠ 6 ∧ e.kind ≠ 7 ∧ e.kind ≠ 8) (w : World) (hv : Vars w) : Calls Tryz.prog 25 #[.agg e.cells] w fun r w' => r = .returned (.string ⟨(evL e).toArray⟩) ∧ Below w.heap.size w w' := by
  have hrn := he.node
  have hrc := he.client
  have hru := he.number
  have hvl := he.val
  obtain ⟨kind, node, client, number, code, val⟩ := e
  simp only at hk hrn hrc hru hvl
  obtain ⟨W0, hW0⟩ : ∃ W0, w.alloc (.cells #[.int .i64 kind, .int .i64 node, .int .i64 client, .int .i64 number, .int .i64 code, .string ⟨val.toArray⟩] 74) = W0 := ⟨_, rfl⟩
  have HB0 : Hid (Below w.heap.size w W0) := by show Below _ _ _; rw [← hW0]; exact (Below.refl _ _).alloc (Nat.le_refl _) _
  have hX0 : W0.heap[w.heap.size]? = some (.cells #[.int .i64 kind, .int .i64 node, .int .i64 client, .int .i64 number, .int .i64 code, .string ⟨val.toArray⟩] 74 (0, 0)) := by rw [← hW0]; exact heap_alloc_new w _
  have c0 : W0.cell? ⟨w.heap.size, 0, none⟩ = some (.int .i64 kind) := by simp only [World.cell?, hX0]; rfl
  have c1 : W0.cell? ⟨w.heap.size, 1, none⟩ = some (.int .i64 node) := by simp only [World.cell?, hX0]; rfl
  have c2 : W0.cell? ⟨w.heap.size, 2, none⟩ = some (.int .i64 client) := by simp only [World.cell?, hX0]; rfl
  have c3 : W0.cell? ⟨w.heap.size, 3, none⟩ = some (.int .i64 number) := by simp only [World.cell?, hX0]; rfl
  have HW0 : Hid (_ = W0) := hW0
  have HX0 : Hid _ := hX0
  have hv0 := hv.below HB0.out
  unfold Ev.cells
  obtain ⟨k1, k2, k3, k5, k6, k7, k8⟩ := hk
  have HE : Hid (evL ⟨kind, node, client, number, code, val⟩ = [63]) := by show _ = _; unfold evL; simp [k1, k2, k3, k5, k6, k7, k8]
  have b1 : (kind == 1) = false := by simpa using k1
  have b2 : (kind == 2) = false := by simpa using k2
  have b3 : (kind == 3) = false := by simpa using k3
  have b5 : (kind == 5) = false := by simpa using k5
  have b6 : (kind == 6) = false := by simpa using k6
  have b7 : (kind == 7) = false := by simpa using k7
  have b8 : (kind == 8) = false := by simpa using k8
  clear hW0 hX0 hv hv0 k1 k2 k3 k5 k6 k7 k8
  go_enter Tryz.func25, Tryz.ntmps25
  go_upto_region 1 with fail
  rw [HW0.out]
  go_wp2
  go_ret
  exact ⟨by rw [HE.out]; rfl, HB0.out⟩
end Go.Proofs.YtbckogojnjmjcaaGreatDoor
namespace Go.Proofs.YtbckogojnjmjcaaGreatDoor
open Go.RowKit Go.Shelf

set_option maxRecDepth 100000 in
set_option maxHeartbeats 4000000 in
theorem rreply_any (code : Int) (val : Bs) (hl : val.length ≤ 2000000) (w : World) : Calls Tryz.prog 28 #[.agg #[.int .i64 code, .string ⟨val.toArray⟩]] w fun e w' => e = .returned (.string ⟨(repL code val).toArray⟩) ∧ Below w.heap.size w w' := by
  have h6 := word_len6 code
  have HRE : Hid (repL code val = if val = [] then wordOf 1 codesL code else wordOf 1 codesL code ++ [32] ++ quoteL val) := rfl
  have hq : (quoteL val).length ≤ 8000002 := by
    unfold quoteL
    split
    · omega
    · have := (flat_len val).2
      simp only [List.length_cons, List.length_append, List.length_nil]
      omega
  obtain ⟨W2, hW2⟩ : ∃ W2, (w.alloc (.cells #[.int .i64 code, .string ⟨val.toArray⟩] 70)).alloc (.cells (codesL.map str).toArray 9) = W2 := ⟨_, rfl⟩
  have HB2 : Hid (Below w.heap.size w W2) := by show Below _ _ _; rw [← hW2]; exact ((Below.refl _ _).alloc (Nat.le_refl _) _).alloc (by simp) _
  have hX2 : W2.heap[w.heap.size]? = some (.cells #[.int .i64 code, .string ⟨val.toArray⟩] 70 (0, 0)) := by rw [← hW2, Below.heap_alloc _ _ _ (by simp)]; exact heap_alloc_new w _
  have hS2 : StrAt W2 (w.heap.size + 1) codesL := by
    have h := heap_alloc_new (w.alloc (.cells #[.int .i64 code, .string ⟨val.toArray⟩] 70)) (.cells (codesL.map str).toArray 9)
    rw [World.size_alloc, hW2] at h
    exact StrAt.of h
  have HS2 : Hid (StrAt W2 (w.heap.size + 1) codesL) := hS2
  have c0 : W2.cell? ⟨w.heap.size, 0, none⟩ = some (.int .i64 code) := by simp only [World.cell?, hX2]; rfl
  have c1 : W2.cell? ⟨w.heap.size, 1, none⟩ = some (.string ⟨val.toArray⟩) := by simp only [World.cell?, hX2]; rfl
  have hWc : (w.alloc (.cells #[.int .i64 code, .string ⟨val.toArray⟩] 70)).alloc (.cells #[.string ⟨#[100, 111, 110, 101]⟩, .string ⟨#[110, 111, 110, 101]⟩, .string ⟨#[111, 116, 104, 101, 114]⟩, .string ⟨#[111, 108, 100]⟩, .string ⟨#[102, 117, 108, 108]⟩, .string ⟨#[108, 101, 97, 100]⟩, .string ⟨#[98, 117, 115, 121]⟩, .string ⟨#[108, 111, 115, 116]⟩, .string ⟨#[108, 105, 109, 105, 116]⟩, .string ⟨#[100, 111, 119, 110]⟩] 9) = W2 := hW2
  have HW2 : Hid (_ = W2) := hWc
  have HQ := rquote_big val hl W2
  clear hW2 hWc hX2 hS2
  go_enter Tryz.func28, Tryz.ntmps28
  go_upto_region 3 with fail
  rw [HW2.out]
  clear HW2
  by_cases h1 : 1 ≤ code
  case neg =>
    have HWD : Hid (wordOf 1 codesL code = [63]) := by show _ = _; unfold wordOf; rw [if_neg (by omega)]
    by_cases hv : val = []
    · have HE : Hid (repL code val = [63]) := by show _ = _; rw [HRE.out, if_pos hv, HWD.out]
      subst hv
      clear HRE
      go_wp2
      go_ret
      exact ⟨by rw [HE.out]; rfl, HB2.out⟩
    · have HE : Hid (repL code val = [63] ++ [32] ++ quoteL val) := by show _ = _; rw [HRE.out, if_neg hv, HWD.out]
      have hve : val.isEmpty = false := by cases val with | nil => exact absurd rfl hv | cons c q => rfl
      clear hv HRE
      generalize quoteL val = qv at *
      have hcat1 := cat2 [63] [32]
      have hcat := cat2 ([63] ++ [32]) qv
      go_wp2_with (go_at_call 13; refine HQ.mono ?_; rintro e w7 ⟨rfl, hB7⟩)
      go_ret
      refine ⟨?_, HB2.out.trans (hB7.mono HB2.out.size)⟩
      rw [HE.out]
      simp
      exact cat2 [63, 32] qv
  by_cases h2 : code ≤ 10
  case neg =>
    have HWD : Hid (wordOf 1 codesL code = [63]) := by show _ = _; unfold wordOf; rw [if_neg (by simp only [codesL, List.length_cons, List.length_nil]; omega)]
    by_cases hv : val = []
    · have HE : Hid (repL code val = [63]) := by show _ = _; rw [HRE.out, if_pos hv, HWD.out]
      subst hv
      clear HRE
      go_wp2
      go_ret
      exact ⟨by rw [HE.out]; rfl, HB2.out⟩
    · have HE : Hid (repL code val = [63] ++ [32] ++ quoteL val) := by show _ = _; rw [HRE.out, if_neg hv, HWD.out]
      have hve : val.isEmpty = false := by cases val with | nil => exact absurd rfl hv | cons c q => rfl
      clear hv HRE
      generalize quoteL val = qv at *
      have hcat1 := cat2 [63] [32]
      have hcat := cat2 ([63] ++ [32]) qv
      go_wp2_with (go_at_call 13; refine HQ.mono ?_; rintro e w7 ⟨rfl, hB7⟩)
      go_ret
      refine ⟨?_, HB2.out.trans (hB7.mono HB2.out.size)⟩
      rw [HE.out]
      simp
      exact cat2 [63, 32] qv
  obtain ⟨j, rfl⟩ : ∃ j : Nat, code = (j : Int) + 1 := ⟨(code - 1).toNat, by omega⟩
  have hj : j < 10 := by omega
  obtain ⟨wd, hwd⟩ : ∃ wd, wd = codesL.getD j [] := ⟨_, rfl⟩
  have HWD : Hid (wordOf 1 codesL ((j : Int) + 1) = wd) := by
    show _ = _
    unfold wordOf
    rw [if_pos (by simp only [codesL, List.length_cons, List.length_nil]; omega), show ((j : Int) + 1 - 1).toNat = j by omega, hwd]
  have hwl : wd.length ≤ 10 := by rw [← HWD.out]; exact h6
  have hsub : IntKind.i64.wrap ((j : Int) + 1 - 1) = (j : Int) := by rw [IntKind.wrap_i64]; omega
  have hjj : (j : Int) + 1 - 1 = (j : Int) := by omega
  have hcj := HS2.out j (by simpa [codesL] using hj)
  rw [← hwd] at hcj
  clear hwd h6
  by_cases hv : val = []
  · have HE : Hid (repL ((j : Int) + 1) val = wd) := by show _ = _; rw [HRE.out, if_pos hv, HWD.out]
    subst hv
    clear HRE
    go_wp2
    go_ret
    exact ⟨by rw [HE.out]; rfl, HB2.out⟩
  · have HE : Hid (repL ((j : Int) + 1) val = wd ++ [32] ++ quoteL val) := by show _ = _; rw [HRE.out, if_neg hv, HWD.out]
    have hve : val.isEmpty = false := by cases val with | nil => exact absurd rfl hv | cons c q => rfl
    clear hv HRE
    generalize quoteL val = qv at *
    have hcat1 := cat2 wd [32]
    have hcat := cat2 (wd ++ [32]) qv
    go_wp2_with (go_at_call 13; refine HQ.mono ?_; rintro e w7 ⟨rfl, hB7⟩)
    go_ret
    refine ⟨?_, HB2.out.trans (hB7.mono HB2.out.size)⟩
    rw [HE.out]
    simp
end Go.Proofs.YtbckogojnjmjcaaGreatDoor
namespace Go.Proofs.YtbckogojnjmjcaaGreatDoor
open Go.RowKit Go.Shelf

set_option maxRecDepth 100000 in
set_option maxHeartbeats 4000000 in
theorem rev1_any (e : Ev) (he : EvOk e) (hk : e.kind = 1) (w : World) (hv : Vars w) : Calls Tryz.prog 26 #[.agg e.cells] w fun r w' => r = .returned (.string ⟨(evL e).toArray⟩) ∧ Below w.heap.size w w' := by
  have hrn := he.node
  have hru := he.number
  obtain ⟨kind, node, client, number, code, val⟩ := e
  simp only at hk hrn hru
  obtain ⟨W0, hW0⟩ : ∃ W0, w.alloc (.cells #[.int .i64 kind, .int .i64 node, .int .i64 client, .int .i64 number, .int .i64 code, .string ⟨val.toArray⟩] 78) = W0 := ⟨_, rfl⟩
  have HB0 : Hid (Below w.heap.size w W0) := by show Below _ _ _; rw [← hW0]; exact (Below.refl _ _).alloc (Nat.le_refl _) _
  have hX0 : W0.heap[w.heap.size]? = some (.cells #[.int .i64 kind, .int .i64 node, .int .i64 client, .int .i64 number, .int .i64 code, .string ⟨val.toArray⟩] 78 (0, 0)) := by rw [← hW0]; exact heap_alloc_new w _
  have HX0 : Hid (W0.heap[w.heap.size]? = some (.cells #[.int .i64 kind, .int .i64 node, .int .i64 client, .int .i64 number, .int .i64 code, .string ⟨val.toArray⟩] 78 (0, 0))) := hX0
  have c1 : W0.cell? ⟨w.heap.size, 1, none⟩ = some (.int .i64 node) := by simp only [World.cell?, hX0]; rfl
  have HW0 : Hid (_ = W0) := hW0
  have hz0 : w.heap.size < W0.heap.size := (Array.getElem?_eq_some_iff.1 hX0).1
  have HV : Hid (∀ W, Below w.heap.size w W → Vars W) := fun W h => hv.below h
  have HIN := itoa_any node hrn.1 hrn.2 W0 (HV.out _ HB0.out)
  have HIU := fun W h => itoa_any number hru.1 hru.2 W h
  have hln := itoa_len node hrn.1 hrn.2
  have hlu := itoa_len number hru.1 hru.2
  unfold str at HIN HIU
  unfold Ev.cells
  generalize hsn : Lib.itoa node = sn at *
  generalize hsu : Lib.itoa number = su at *
  have HE : Hid (evL ⟨kind, node, client, number, code, val⟩ = [115, 101, 110, 100, 32] ++ sn ++ ([32] ++ su)) := by show _ = _; unfold evL; simp [hk, tellL, hsn, hsu]
  subst hk
  have hcu := cat2 [32] su
  have hc2 := cat2 [115, 101, 110, 100, 32] sn
  have hc3 := cat2 ([115, 101, 110, 100, 32] ++ sn) ([32] ++ su)
  clear hsn hsu hW0 hX0 hv
  go_enter Tryz.func26, Tryz.ntmps26
  go_upto_region 1 with fail
  rw [HW0.out]
  go_wp2_with fail
  refine HIN.mono ?_
  rintro r w1 ⟨rfl, hB1⟩
  have HB1 : Hid (Below w.heap.size w w1) := HB0.out.trans (hB1.mono HB0.out.size)
  have hX1 := (hB1.block _ hz0).trans HX0.out
  have d0 : w1.cell? ⟨w.heap.size, 0, none⟩ = some (.int .i64 1) := by simp only [World.cell?, hX1]; rfl
  have d3 : w1.cell? ⟨w.heap.size, 3, none⟩ = some (.int .i64 number) := by simp only [World.cell?, hX1]; rfl
  have HX1 : Hid _ := hX1
  have hz1 : w.heap.size < w1.heap.size := (Array.getElem?_eq_some_iff.1 hX1).1
  have HIU1 := HIU w1 (HV.out _ HB1.out)
  clear hX1 hB1 HIN c1 HX0
  go_wp2_with fail
  refine HIU1.mono ?_
  rintro r w2 ⟨rfl, hB2⟩
  have HB2 : Hid (Below w.heap.size w w2) := HB1.out.trans (hB2.mono HB1.out.size)
  have hX2 := (hB2.block _ hz1).trans HX1.out
  have e0 : w2.cell? ⟨w.heap.size, 0, none⟩ = some (.int .i64 1) := by simp only [World.cell?, hX2]; rfl
  clear hX2 hB2 HIU HIU1 d0 d3 HX1
  go_wp2
  go_ret
  refine ⟨?_, HB2.out⟩
  rw [HE.out]
  first | rfl | simp | (simp; done)
set_option maxRecDepth 100000 in
set_option maxHeartbeats 4000000 in
theorem rev2_any (e : Ev) (he : EvOk e) (hk : e.kind = 2) (w : World) (hv : Vars w) : Calls Tryz.prog 26 #[.agg e.cells] w fun r w' => r = .returned (.string ⟨(evL e).toArray⟩) ∧ Below w.heap.size w w' := by
  have hrn := he.node
  have hru := he.number
  obtain ⟨kind, node, client, number, code, val⟩ := e
  simp only at hk hrn hru
  obtain ⟨W0, hW0⟩ : ∃ W0, w.alloc (.cells #[.int .i64 kind, .int .i64 node, .int .i64 client, .int .i64 number, .int .i64 code, .string ⟨val.toArray⟩] 78) = W0 := ⟨_, rfl⟩
  have HB0 : Hid (Below w.heap.size w W0) := by show Below _ _ _; rw [← hW0]; exact (Below.refl _ _).alloc (Nat.le_refl _) _
  have hX0 : W0.heap[w.heap.size]? = some (.cells #[.int .i64 kind, .int .i64 node, .int .i64 client, .int .i64 number, .int .i64 code, .string ⟨val.toArray⟩] 78 (0, 0)) := by rw [← hW0]; exact heap_alloc_new w _
  have HX0 : Hid (W0.heap[w.heap.size]? = some (.cells #[.int .i64 kind, .int .i64 node, .int .i64 client, .int .i64 number, .int .i64 code, .string ⟨val.toArray⟩] 78 (0, 0))) := hX0
  have c1 : W0.cell? ⟨w.heap.size, 1, none⟩ = some (.int .i64 node) := by simp only [World.cell?, hX0]; rfl
  have HW0 : Hid (_ = W0) := hW0
  have hz0 : w.heap.size < W0.heap.size := (Array.getElem?_eq_some_iff.1 hX0).1
  have HV : Hid (∀ W, Below w.heap.size w W → Vars W) := fun W h => hv.below h
  have HIN := itoa_any node hrn.1 hrn.2 W0 (HV.out _ HB0.out)
  have HIU := fun W h => itoa_any number hru.1 hru.2 W h
  have hln := itoa_len node hrn.1 hrn.2
  have hlu := itoa_len number hru.1 hru.2
  unfold str at HIN HIU
  unfold Ev.cells
  generalize hsn : Lib.itoa node = sn at *
  generalize hsu : Lib.itoa number = su at *
  have HE : Hid (evL ⟨kind, node, client, number, code, val⟩ = [115, 121, 110, 99, 32] ++ sn ++ ([32] ++ su)) := by show _ = _; unfold evL; simp [hk, tellL, hsn, hsu]
  subst hk
  have hcu := cat2 [32] su
  have hc2 := cat2 [115, 121, 110, 99, 32] sn
  have hc3 := cat2 ([115, 121, 110, 99, 32] ++ sn) ([32] ++ su)
  clear hsn hsu hW0 hX0 hv
  go_enter Tryz.func26, Tryz.ntmps26
  go_upto_region 1 with fail
  rw [HW0.out]
  go_wp2_with fail
  refine HIN.mono ?_
  rintro r w1 ⟨rfl, hB1⟩
  have HB1 : Hid (Below w.heap.size w w1) := HB0.out.trans (hB1.mono HB0.out.size)
  have hX1 := (hB1.block _ hz0).trans HX0.out
  have d0 : w1.cell? ⟨w.heap.size, 0, none⟩ = some (.int .i64 2) := by simp only [World.cell?, hX1]; rfl
  have d3 : w1.cell? ⟨w.heap.size, 3, none⟩ = some (.int .i64 number) := by simp only [World.cell?, hX1]; rfl
  have HX1 : Hid _ := hX1
  have hz1 : w.heap.size < w1.heap.size := (Array.getElem?_eq_some_iff.1 hX1).1
  have HIU1 := HIU w1 (HV.out _ HB1.out)
  clear hX1 hB1 HIN c1 HX0
  go_wp2_with fail
  refine HIU1.mono ?_
  rintro r w2 ⟨rfl, hB2⟩
  have HB2 : Hid (Below w.heap.size w w2) := HB1.out.trans (hB2.mono HB1.out.size)
  have hX2 := (hB2.block _ hz1).trans HX1.out
  have e0 : w2.cell? ⟨w.heap.size, 0, none⟩ = some (.int .i64 2) := by simp only [World.cell?, hX2]; rfl
  clear hX2 hB2 HIU HIU1 d0 d3 HX1
  go_wp2
  go_ret
  refine ⟨?_, HB2.out⟩
  rw [HE.out]
  first | rfl | simp | (simp; done)
set_option maxRecDepth 100000 in
set_option maxHeartbeats 4000000 in
theorem rev3_any (e : Ev) (he : EvOk e) (hk : e.kind = 3) (w : World) (hv : Vars w) : Calls Tryz.prog 26 #[.agg e.cells] w fun r w' => r = .returned (.string ⟨(evL e).toArray⟩) ∧ Below w.heap.size w w' := by
  have hrn := he.node
  have hru := he.number
  obtain ⟨kind, node, client, number, code, val⟩ := e
  simp only at hk hrn hru
  obtain ⟨W0, hW0⟩ : ∃ W0, w.alloc (.cells #[.int .i64 kind, .int .i64 node, .int .i64 client, .int .i64 number, .int .i64 code, .string ⟨val.toArray⟩] 78) = W0 := ⟨_, rfl⟩
  have HB0 : Hid (Below w.heap.size w W0) := by show Below _ _ _; rw [← hW0]; exact (Below.refl _ _).alloc (Nat.le_refl _) _
  have hX0 : W0.heap[w.heap.size]? = some (.cells #[.int .i64 kind, .int .i64 node, .int .i64 client, .int .i64 number, .int .i64 code, .string ⟨val.toArray⟩] 78 (0, 0)) := by rw [← hW0]; exact heap_alloc_new w _
  have HX0 : Hid (W0.heap[w.heap.size]? = some (.cells #[.int .i64 kind, .int .i64 node, .int .i64 client, .int .i64 number, .int .i64 code, .string ⟨val.toArray⟩] 78 (0, 0))) := hX0
  have c1 : W0.cell? ⟨w.heap.size, 1, none⟩ = some (.int .i64 node) := by simp only [World.cell?, hX0]; rfl
  have HW0 : Hid (_ = W0) := hW0
  have hz0 : w.heap.size < W0.heap.size := (Array.getElem?_eq_some_iff.1 hX0).1
  have HV : Hid (∀ W, Below w.heap.size w W → Vars W) := fun W h => hv.below h
  have HIN := itoa_any node hrn.1 hrn.2 W0 (HV.out _ HB0.out)
  have HIU := fun W h => itoa_any number hru.1 hru.2 W h
  have hln := itoa_len node hrn.1 hrn.2
  have hlu := itoa_len number hru.1 hru.2
  unfold str at HIN HIU
  unfold Ev.cells
  generalize hsn : Lib.itoa node = sn at *
  generalize hsu : Lib.itoa number = su at *
  have HE : Hid (evL ⟨kind, node, client, number, code, val⟩ = [97, 112, 112, 108, 121, 32] ++ sn ++ ([32] ++ su)) := by show _ = _; unfold evL; simp [hk, tellL, hsn, hsu]
  subst hk
  have hcu := cat2 [32] su
  have hc2 := cat2 [97, 112, 112, 108, 121, 32] sn
  have hc3 := cat2 ([97, 112, 112, 108, 121, 32] ++ sn) ([32] ++ su)
  clear hsn hsu hW0 hX0 hv
  go_enter Tryz.func26, Tryz.ntmps26
  go_upto_region 1 with fail
  rw [HW0.out]
  go_wp2_with fail
  refine HIN.mono ?_
  rintro r w1 ⟨rfl, hB1⟩
  have HB1 : Hid (Below w.heap.size w w1) := HB0.out.trans (hB1.mono HB0.out.size)
  have hX1 := (hB1.block _ hz0).trans HX0.out
  have d0 : w1.cell? ⟨w.heap.size, 0, none⟩ = some (.int .i64 3) := by simp only [World.cell?, hX1]; rfl
  have d3 : w1.cell? ⟨w.heap.size, 3, none⟩ = some (.int .i64 number) := by simp only [World.cell?, hX1]; rfl
  have HX1 : Hid _ := hX1
  have hz1 : w.heap.size < w1.heap.size := (Array.getElem?_eq_some_iff.1 hX1).1
  have HIU1 := HIU w1 (HV.out _ HB1.out)
  clear hX1 hB1 HIN c1 HX0
  go_wp2_with fail
  refine HIU1.mono ?_
  rintro r w2 ⟨rfl, hB2⟩
  have HB2 : Hid (Below w.heap.size w w2) := HB1.out.trans (hB2.mono HB1.out.size)
  have hX2 := (hB2.block _ hz1).trans HX1.out
  have e0 : w2.cell? ⟨w.heap.size, 0, none⟩ = some (.int .i64 3) := by simp only [World.cell?, hX2]; rfl
  clear hX2 hB2 HIU HIU1 d0 d3 HX1
  go_wp2
  go_ret
  refine ⟨?_, HB2.out⟩
  rw [HE.out]
  first | rfl | simp | (simp; done)
set_option maxRecDepth 100000 in
set_option maxHeartbeats 4000000 in
theorem rev5_any (e : Ev) (he : EvOk e) (hk : e.kind = 5) (w : World) (hv : Vars w) : Calls Tryz.prog 26 #[.agg e.cells] w fun r w' => r = .returned (.string ⟨(evL e).toArray⟩) ∧ Below w.heap.size w w' := by
  have hrn := he.node
  have hru := he.number
  obtain ⟨kind, node, client, number, code, val⟩ := e
  simp only at hk hrn hru
  obtain ⟨W0, hW0⟩ : ∃ W0, w.alloc (.cells #[.int .i64 kind, .int .i64 node, .int .i64 client, .int .i64 number, .int .i64 code, .string ⟨val.toArray⟩] 78) = W0 := ⟨_, rfl⟩
  have HB0 : Hid (Below w.heap.size w W0) := by show Below _ _ _; rw [← hW0]; exact (Below.refl _ _).alloc (Nat.le_refl _) _
  have hX0 : W0.heap[w.heap.size]? = some (.cells #[.int .i64 kind, .int .i64 node, .int .i64 client, .int .i64 number, .int .i64 code, .string ⟨val.toArray⟩] 78 (0, 0)) := by rw [← hW0]; exact heap_alloc_new w _
  have HX0 : Hid (W0.heap[w.heap.size]? = some (.cells #[.int .i64 kind, .int .i64 node, .int .i64 client, .int .i64 number, .int .i64 code, .string ⟨val.toArray⟩] 78 (0, 0))) := hX0
  have c1 : W0.cell? ⟨w.heap.size, 1, none⟩ = some (.int .i64 node) := by simp only [World.cell?, hX0]; rfl
  have HW0 : Hid (_ = W0) := hW0
  have hz0 : w.heap.size < W0.heap.size := (Array.getElem?_eq_some_iff.1 hX0).1
  have HV : Hid (∀ W, Below w.heap.size w W → Vars W) := fun W h => hv.below h
  have HIN := itoa_any node hrn.1 hrn.2 W0 (HV.out _ HB0.out)
  have HIU := fun W h => itoa_any number hru.1 hru.2 W h
  have hln := itoa_len node hrn.1 hrn.2
  have hlu := itoa_len number hru.1 hru.2
  unfold str at HIN HIU
  unfold Ev.cells
  generalize hsn : Lib.itoa node = sn at *
  generalize hsu : Lib.itoa number = su at *
  have HE : Hid (evL ⟨kind, node, client, number, code, val⟩ = [115, 110, 97, 112, 32] ++ sn ++ ([32] ++ su)) := by show _ = _; unfold evL; simp [hk, tellL, hsn, hsu]
  subst hk
  have hcu := cat2 [32] su
  have hc2 := cat2 [115, 110, 97, 112, 32] sn
  have hc3 := cat2 ([115, 110, 97, 112, 32] ++ sn) ([32] ++ su)
  clear hsn hsu hW0 hX0 hv
  go_enter Tryz.func26, Tryz.ntmps26
  go_upto_region 1 with fail
  rw [HW0.out]
  go_wp2_with fail
  refine HIN.mono ?_
  rintro r w1 ⟨rfl, hB1⟩
  have HB1 : Hid (Below w.heap.size w w1) := HB0.out.trans (hB1.mono HB0.out.size)
  have hX1 := (hB1.block _ hz0).trans HX0.out
  have d0 : w1.cell? ⟨w.heap.size, 0, none⟩ = some (.int .i64 5) := by simp only [World.cell?, hX1]; rfl
  have d3 : w1.cell? ⟨w.heap.size, 3, none⟩ = some (.int .i64 number) := by simp only [World.cell?, hX1]; rfl
  have HX1 : Hid _ := hX1
  have hz1 : w.heap.size < w1.heap.size := (Array.getElem?_eq_some_iff.1 hX1).1
  have HIU1 := HIU w1 (HV.out _ HB1.out)
  clear hX1 hB1 HIN c1 HX0
  go_wp2_with fail
  refine HIU1.mono ?_
  rintro r w2 ⟨rfl, hB2⟩
  have HB2 : Hid (Below w.heap.size w w2) := HB1.out.trans (hB2.mono HB1.out.size)
  have hX2 := (hB2.block _ hz1).trans HX1.out
  have e0 : w2.cell? ⟨w.heap.size, 0, none⟩ = some (.int .i64 5) := by simp only [World.cell?, hX2]; rfl
  clear hX2 hB2 HIU HIU1 d0 d3 HX1
  go_wp2
  go_ret
  refine ⟨?_, HB2.out⟩
  rw [HE.out]
  first | rfl | simp | (simp; done)
set_option maxRecDepth 100000 in
set_option maxHeartbeats 4000000 in
theorem rev6_any (e : Ev) (he : EvOk e) (hk : e.kind = 6) (w : World) (hv : Vars w) : Calls Tryz.prog 26 #[.agg e.cells] w fun r w' => r = .returned (.string ⟨(evL e).toArray⟩) ∧ Below w.heap.size w w' := by
  have hrn := he.node
  have hru := he.number
  obtain ⟨kind, node, client, number, code, val⟩ := e
  simp only at hk hrn hru
  obtain ⟨W0, hW0⟩ : ∃ W0, w.alloc (.cells #[.int .i64 kind, .int .i64 node, .int .i64 client, .int .i64 number, .int .i64 code, .string ⟨val.toArray⟩] 78) = W0 := ⟨_, rfl⟩
  have HB0 : Hid (Below w.heap.size w W0) := by show Below _ _ _; rw [← hW0]; exact (Below.refl _ _).alloc (Nat.le_refl _) _
  have hX0 : W0.heap[w.heap.size]? = some (.cells #[.int .i64 kind, .int .i64 node, .int .i64 client, .int .i64 number, .int .i64 code, .string ⟨val.toArray⟩] 78 (0, 0)) := by rw [← hW0]; exact heap_alloc_new w _
  have HX0 : Hid (W0.heap[w.heap.size]? = some (.cells #[.int .i64 kind, .int .i64 node, .int .i64 client, .int .i64 number, .int .i64 code, .string ⟨val.toArray⟩] 78 (0, 0))) := hX0
  have c1 : W0.cell? ⟨w.heap.size, 1, none⟩ = some (.int .i64 node) := by simp only [World.cell?, hX0]; rfl
  have HW0 : Hid (_ = W0) := hW0
  have hz0 : w.heap.size < W0.heap.size := (Array.getElem?_eq_some_iff.1 hX0).1
  have HV : Hid (∀ W, Below w.heap.size w W → Vars W) := fun W h => hv.below h
  have HIN := itoa_any node hrn.1 hrn.2 W0 (HV.out _ HB0.out)
  have HIU := fun W h => itoa_any number hru.1 hru.2 W h
  have hln := itoa_len node hrn.1 hrn.2
  have hlu := itoa_len number hru.1 hru.2
  unfold str at HIN HIU
  unfold Ev.cells
  generalize hsn : Lib.itoa node = sn at *
  generalize hsu : Lib.itoa number = su at *
  have HE : Hid (evL ⟨kind, node, client, number, code, val⟩ = [100, 111, 119, 110, 32] ++ sn) := by show _ = _; unfold evL; simp [hk, tellL, hsn]
  subst hk
  have hcu := cat2 [32] su
  have hc2 := cat2 [100, 111, 119, 110, 32] sn
  clear hsn hsu hW0 hX0 hv
  go_enter Tryz.func26, Tryz.ntmps26
  go_upto_region 1 with fail
  rw [HW0.out]
  go_wp2_with fail
  refine HIN.mono ?_
  rintro r w1 ⟨rfl, hB1⟩
  have HB1 : Hid (Below w.heap.size w w1) := HB0.out.trans (hB1.mono HB0.out.size)
  have hX1 := (hB1.block _ hz0).trans HX0.out
  have d0 : w1.cell? ⟨w.heap.size, 0, none⟩ = some (.int .i64 6) := by simp only [World.cell?, hX1]; rfl
  have d3 : w1.cell? ⟨w.heap.size, 3, none⟩ = some (.int .i64 number) := by simp only [World.cell?, hX1]; rfl
  have HX1 : Hid _ := hX1
  have hz1 : w.heap.size < w1.heap.size := (Array.getElem?_eq_some_iff.1 hX1).1
  have HIU1 := HIU w1 (HV.out _ HB1.out)
  clear hX1 hB1 HIN c1 HX0
  go_wp2_with fail
  refine HIU1.mono ?_
  rintro r w2 ⟨rfl, hB2⟩
  have HB2 : Hid (Below w.heap.size w w2) := HB1.out.trans (hB2.mono HB1.out.size)
  have hX2 := (hB2.block _ hz1).trans HX1.out
  have e0 : w2.cell? ⟨w.heap.size, 0, none⟩ = some (.int .i64 6) := by simp only [World.cell?, hX2]; rfl
  clear hX2 hB2 HIU HIU1 d0 d3 HX1
  go_wp2
  go_ret
  refine ⟨?_, HB2.out⟩
  rw [HE.out]
  first | rfl | simp | (simp; done)
set_option maxRecDepth 100000 in
set_option maxHeartbeats 4000000 in
theorem rev7_any (e : Ev) (he : EvOk e) (hk : e.kind = 7) (w : World) (hv : Vars w) : Calls Tryz.prog 26 #[.agg e.cells] w fun r w' => r = .returned (.string ⟨(evL e).toArray⟩) ∧ Below w.heap.size w w' := by
  have hrn := he.node
  have hru := he.number
  obtain ⟨kind, node, client, number, code, val⟩ := e
  simp only at hk hrn hru
  obtain ⟨W0, hW0⟩ : ∃ W0, w.alloc (.cells #[.int .i64 kind, .int .i64 node, .int .i64 client, .int .i64 number, .int .i64 code, .string ⟨val.toArray⟩] 78) = W0 := ⟨_, rfl⟩
  have HB0 : Hid (Below w.heap.size w W0) := by show Below _ _ _; rw [← hW0]; exact (Below.refl _ _).alloc (Nat.le_refl _) _
  have hX0 : W0.heap[w.heap.size]? = some (.cells #[.int .i64 kind, .int .i64 node, .int .i64 client, .int .i64 number, .int .i64 code, .string ⟨val.toArray⟩] 78 (0, 0)) := by rw [← hW0]; exact heap_alloc_new w _
  have HX0 : Hid (W0.heap[w.heap.size]? = some (.cells #[.int .i64 kind, .int .i64 node, .int .i64 client, .int .i64 number, .int .i64 code, .string ⟨val.toArray⟩] 78 (0, 0))) := hX0
  have c1 : W0.cell? ⟨w.heap.size, 1, none⟩ = some (.int .i64 node) := by simp only [World.cell?, hX0]; rfl
  have HW0 : Hid (_ = W0) := hW0
  have hz0 : w.heap.size < W0.heap.size := (Array.getElem?_eq_some_iff.1 hX0).1
  have HV : Hid (∀ W, Below w.heap.size w W → Vars W) := fun W h => hv.below h
  have HIN := itoa_any node hrn.1 hrn.2 W0 (HV.out _ HB0.out)
  have HIU := fun W h => itoa_any number hru.1 hru.2 W h
  have hln := itoa_len node hrn.1 hrn.2
  have hlu := itoa_len number hru.1 hru.2
  unfold str at HIN HIU
  unfold Ev.cells
  generalize hsn : Lib.itoa node = sn at *
  generalize hsu : Lib.itoa number = su at *
  have HE : Hid (evL ⟨kind, node, client, number, code, val⟩ = [101, 110, 100, 32] ++ sn ++ ([32] ++ su)) := by show _ = _; unfold evL; simp [hk, tellL, hsn, hsu]
  subst hk
  have hcu := cat2 [32] su
  have hc2 := cat2 [101, 110, 100, 32] sn
  have hc3 := cat2 ([101, 110, 100, 32] ++ sn) ([32] ++ su)
  clear hsn hsu hW0 hX0 hv
  go_enter Tryz.func26, Tryz.ntmps26
  go_upto_region 1 with fail
  rw [HW0.out]
  go_wp2_with fail
  refine HIN.mono ?_
  rintro r w1 ⟨rfl, hB1⟩
  have HB1 : Hid (Below w.heap.size w w1) := HB0.out.trans (hB1.mono HB0.out.size)
  have hX1 := (hB1.block _ hz0).trans HX0.out
  have d0 : w1.cell? ⟨w.heap.size, 0, none⟩ = some (.int .i64 7) := by simp only [World.cell?, hX1]; rfl
  have d3 : w1.cell? ⟨w.heap.size, 3, none⟩ = some (.int .i64 number) := by simp only [World.cell?, hX1]; rfl
  have HX1 : Hid _ := hX1
  have hz1 : w.heap.size < w1.heap.size := (Array.getElem?_eq_some_iff.1 hX1).1
  have HIU1 := HIU w1 (HV.out _ HB1.out)
  clear hX1 hB1 HIN c1 HX0
  go_wp2_with fail
  refine HIU1.mono ?_
  rintro r w2 ⟨rfl, hB2⟩
  have HB2 : Hid (Below w.heap.size w w2) := HB1.out.trans (hB2.mono HB1.out.size)
  have hX2 := (hB2.block _ hz1).trans HX1.out
  have e0 : w2.cell? ⟨w.heap.size, 0, none⟩ = some (.int .i64 7) := by simp only [World.cell?, hX2]; rfl
  clear hX2 hB2 HIU HIU1 d0 d3 HX1
  go_wp2
  go_ret
  refine ⟨?_, HB2.out⟩
  rw [HE.out]
  first | rfl | simp | (simp; done)
set_option maxRecDepth 100000 in
set_option maxHeartbeats 4000000 in
theorem revx_any (e : Ev) (he : EvOk e) (hk : e.kind ≠ 1 ∧ e.kind ≠ 2 ∧ e.kind ≠ 3 ∧ e.kind ≠ 5 ∧ e.kind ≠ 6 ∧ e.kind ≠ 7 ∧ e.kind ≠ 8) (w : World) (hv : Vars w) : Calls Tryz.prog 26 #[.agg e.cells] w fun r w' => r = .returned (.string ⟨(evL e).toArray⟩) ∧ Below w.heap.size w w' := by
  have hrn := he.node
  have hru := he.number
  obtain ⟨kind, node, client, number, code, val⟩ := e
  simp only at hk hrn hru
  obtain ⟨W0, hW0⟩ : ∃ W0, w.alloc (.cells #[.int .i64 kind, .int .i64 node, .int .i64 client, .int .i64 number, .int .i64 code, .string ⟨val.toArray⟩] 78) = W0 := ⟨_, rfl⟩
  have HB0 : Hid (Below w.heap.size w W0) := by show Below _ _ _; rw [← hW0]; exact (Below.refl _ _).alloc (Nat.le_refl _) _
  have hX0 : W0.heap[w.heap.size]? = some (.cells #[.int .i64 kind, .int .i64 node, .int .i64 client, .int .i64 number, .int .i64 code, .string ⟨val.toArray⟩] 78 (0, 0)) := by rw [← hW0]; exact heap_alloc_new w _
  have HX0 : Hid (W0.heap[w.heap.size]? = some (.cells #[.int .i64 kind, .int .i64 node, .int .i64 client, .int .i64 number, .int .i64 code, .string ⟨val.toArray⟩] 78 (0, 0))) := hX0
  have c1 : W0.cell? ⟨w.heap.size, 1, none⟩ = some (.int .i64 node) := by simp only [World.cell?, hX0]; rfl
  have HW0 : Hid (_ = W0) := hW0
  have hz0 : w.heap.size < W0.heap.size := (Array.getElem?_eq_some_iff.1 hX0).1
  have HV : Hid (∀ W, Below w.heap.size w W → Vars W) := fun W h => hv.below h
  have HIN := itoa_any node hrn.1 hrn.2 W0 (HV.out _ HB0.out)
  have HIU := fun W h => itoa_any number hru.1 hru.2 W h
  have hln := itoa_len node hrn.1 hrn.2
  have hlu := itoa_len number hru.1 hru.2
  unfold str at HIN HIU
  unfold Ev.cells
  obtain ⟨k1, k2, k3, k5, k6, k7, k8⟩ := hk
  generalize hsn : Lib.itoa node = sn at *
  generalize hsu : Lib.itoa number = su at *
  have HE : Hid (evL ⟨kind, node, client, number, code, val⟩ = [63]) := by show _ = _; unfold evL; simp [k1, k2, k3, k5, k6, k7, k8]
  have b1 : (kind == 1) = false := by simpa using k1
  have b2 : (kind == 2) = false := by simpa using k2
  have b3 : (kind == 3) = false := by simpa using k3
  have b5 : (kind == 5) = false := by simpa using k5
  have b6 : (kind == 6) = false := by simpa using k6
  have b7 : (kind == 7) = false := by simpa using k7
  have b8 : (kind == 8) = false := by simpa using k8
  have hcu := cat2 [32] su
  clear hsn hsu hW0 hX0 hv k1 k2 k3 k5 k6 k7 k8
  go_enter Tryz.func26, Tryz.ntmps26
  go_upto_region 1 with fail
  rw [HW0.out]
  go_wp2_with fail
  refine HIN.mono ?_
  rintro r w1 ⟨rfl, hB1⟩
  have HB1 : Hid (Below w.heap.size w w1) := HB0.out.trans (hB1.mono HB0.out.size)
  have hX1 := (hB1.block _ hz0).trans HX0.out
  have d0 : w1.cell? ⟨w.heap.size, 0, none⟩ = some (.int .i64 kind) := by simp only [World.cell?, hX1]; rfl
  have d3 : w1.cell? ⟨w.heap.size, 3, none⟩ = some (.int .i64 number) := by simp only [World.cell?, hX1]; rfl
  have HX1 : Hid _ := hX1
  have hz1 : w.heap.size < w1.heap.size := (Array.getElem?_eq_some_iff.1 hX1).1
  have HIU1 := HIU w1 (HV.out _ HB1.out)
  clear hX1 hB1 HIN c1 HX0
  go_wp2_with fail
  refine HIU1.mono ?_
  rintro r w2 ⟨rfl, hB2⟩
  have HB2 : Hid (Below w.heap.size w w2) := HB1.out.trans (hB2.mono HB1.out.size)
  have hX2 := (hB2.block _ hz1).trans HX1.out
  have e0 : w2.cell? ⟨w.heap.size, 0, none⟩ = some (.int .i64 kind) := by simp only [World.cell?, hX2]; rfl
  clear hX2 hB2 HIU HIU1 d0 d3 HX1
  go_wp2
  go_ret
  refine ⟨?_, HB2.out⟩
  rw [HE.out]
  first | rfl | simp | (simp; done)
end Go.Proofs.YtbckogojnjmjcaaGreatDoor
