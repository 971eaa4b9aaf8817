/-
  Append. face and write, of a method that is handed over. The numbers on a disk that has no segment.
-/
import Derived.Test.YtnahghldlkjleaaGreatDoorXK
import Derived.Test.YtnahghldlkjleaaGreatDoorXO
import Derived.Test.YtnahghldlkjleaaGreatDoorXD
import Derived.Test.YtnahghldlkjleaaGreatDoorWM
import Derived.Test.YtnahghldlkjleaaGreatDoorWN
import Derived.Test.YtnahghldlkjleaaGreatDoorSrti
namespace Go.Proofs.YtnahghldlkjleaaGreatDoor
open Go.RowKit
set_option linter.unusedVariables false

/-- A batch that can be put. -/
structure PutOk (X : WS) (B : Bt) : Prop where
  hn : X.sg ≠ []
  few : X.sg.length ≤ 100000000
  hl : X.last.n ≤ 99999999
  hb : X.last.b ≤ 100000000000
  cp : B.es.length ≤ B.cp ∧ B.cp ≤ maxLen
  hd : ∀ e ∈ B.es, e.d.length ≤ 4096
  len : B.es.length ≤ 900
  roll : X.RollOk
  fit : FitAll X.rolled.J (X.rolled.recs B)
  num : ∀ r ∈ X.rolled.recs B, r.Num
  app : X.rolled.recs B ≠ [] → (doAppend X.rolled.p (nmL X.rolled.last.n) (txsB (X.rolled.recs B))).1 = 0

set_option maxRecDepth 100000 in
theorem app1_any {A : Nat → Prop} {w : World} {wb d B0 B1 : Nat} {X : WS} (h : Wl A w wb d X) (B : Bt) (ok : PutOk X B) (hes : ∀ W, Out A w W → EntsAt W.heap.size W B.a B.es)
    (h0 : w.cell? ⟨B0, 0, none⟩ = some (.pointer (some ⟨wb, 0, none⟩))) (h1 : w.heap[B1]? = some (.cells #[.bool B.has, .int .i64 B.t, .int .i64 B.v, .int .i64 B.c, .int .i64 B.i, .int .i64 B.tm, .slice B.a B.es.length B.cp] 39 (0, 0))) :
    Calls Tryz.prog 80 #[.pointer (some ⟨B0, 0, none⟩), .pointer (some ⟨B1, 0, none⟩)] w fun e w' => e = .returned (.tuple #[]) ∧ Wth A w w' wb d (X.put B) := by
  have HP : Hid (Calls Tryz.prog 81 #[.pointer (some ⟨wb, 0, none⟩), .agg #[.bool B.has, .int .i64 B.t, .int .i64 B.v, .int .i64 B.c, .int .i64 B.i, .int .i64 B.tm, .slice B.a B.es.length B.cp]] w fun e w' => e = .returned (.tuple #[]) ∧ Wth A w w' wb d (X.put B)) :=
    put_any h ok.hn ok.few ok.hl ok.hb B hes ok.cp ok.hd ok.len ok.roll ok.fit ok.num ok.app
  obtain ⟨⟨b0, b1, b2, b3, b4, b5, b6⟩, -⟩ := cells7 h1
  clear h ok hes h1
  generalize X.put B = XP at *
  generalize B.es.length = bl at *
  go_enter Tryz.func80, Tryz.ntmps80
  go_wp2_with (go_at_call 81; refine HP.out.mono ?_; rintro e w1 ⟨rfl, HT⟩)
  go_end0
  exact ⟨rfl, HT⟩

theorem entA1 (args : Array Value) (w : World) : (callFunc 80 args).run Tryz.prog w = .ok (.enter 80 args) w := by
  simp [callFunc, Tryz.func80, Tryz.f80, mark]

set_option maxRecDepth 100000 in
set_option maxHeartbeats 1000000 in
theorem append_ok {A : Nat → Prop} {w : World} {wb d : Nat} {X : WS} (h : Wl A w wb d X) (hbr : X.br = false) (B : Bt) (hck : B.chk X.J = 0) (ok : PutOk X B) (hes : ∀ W, Out A w W → EntsAt W.heap.size W B.a B.es) :
    Calls Tryz.prog 34 #[.pointer (some ⟨wb, 0, none⟩), B.val] w fun e w' => e = .returned (.int .i64 0) ∧ Wth A w w' wb d { X.put B with br := false } := by
  obtain ⟨W0, hW0⟩ : ∃ W0, (w.alloc (.cells #[.pointer (some ⟨wb, 0, none⟩)] 31)).alloc (.cells #[.bool B.has, .int .i64 B.t, .int .i64 B.v, .int .i64 B.c, .int .i64 B.i, .int .i64 B.tm, .slice B.a B.es.length B.cp] 39) = W0 := ⟨_, rfl⟩
  have HW : Hid (_ = W0) := hW0
  have hB0 : Below w.heap.size w W0 := by rw [← hW0]; exact ((Below.refl _ w).alloc (Nat.le_refl _) _).alloc (by simp) _
  have hx0 : W0.heap[w.heap.size]? = some (.cells #[.pointer (some ⟨wb, 0, none⟩)] 31 (0, 0)) := by rw [← hW0]; exact (two_new w _ _).1
  have hx1 : W0.heap[w.heap.size + 1]? = some (.cells #[.bool B.has, .int .i64 B.t, .int .i64 B.v, .int .i64 B.c, .int .i64 B.i, .int .i64 B.tm, .slice B.a B.es.length B.cp] 39 (0, 0)) := by rw [← hW0]; exact (two_new w _ _).2
  have c0 : W0.cell? ⟨w.heap.size, 0, none⟩ = some (.pointer (some ⟨wb, 0, none⟩)) := by simp only [World.cell?, hx0]; rfl
  have h1 := h.below hB0
  have w4 : W0.cell? ⟨wb, 4, none⟩ = some (.bool false) := by
    obtain ⟨S, L, b, sv, k, q⟩ := h1
    rw [← hbr]
    exact (cells5w q.hw).1.2.2.2.2
  obtain ⟨⟨b0, b1, b2, b3, b4, b5, b6⟩, -⟩ := cells7 hx1
  have hesW : ∀ W, Out A w W → EntsAt W.heap.size W B.a B.es := hes
  have HCK : Hid (Calls Tryz.prog 79 #[.pointer (some ⟨wb, 0, none⟩), .agg #[.bool B.has, .int .i64 B.t, .int .i64 B.v, .int .i64 B.c, .int .i64 B.i, .int .i64 B.tm, .slice B.a B.es.length B.cp]] W0 fun e w' => e = .returned (.int .i64 0) ∧ w'.cell? ⟨w.heap.size, 0, none⟩ = some (.pointer (some ⟨wb, 0, none⟩)) ∧ Calls Tryz.prog 48 #[.pointer (some ⟨wb, 0, none⟩), .func (.func 80) #[] #[.pointer (some ⟨w.heap.size, 0, none⟩), .pointer (some ⟨w.heap.size + 1, 0, none⟩)]] w' fun e w2 => e = .returned (.int .i64 0) ∧ Hid (Wth A w w2 wb d { X.put B with br := false })) := by
    have := check_any h1 B (hes W0 (Out.of_below hB0)) ok.cp (by have := ok.len; omega)
    rw [hck] at this
    refine this.mono ?_
    rintro e w' ⟨rfl, hB⟩
    have hBw : Below w.heap.size w w' := hB0.trans (hB.mono hB0.size)
    have hx0' := bel_heap hB hx0
    refine ⟨rfl, by simp only [World.cell?, hx0']; rfl, ?_⟩
    refine (write_ok (X' := X.put B) (h.below hBw) _ _ entA1 (fun W hBW => ?_)).mono ?_
    · have hb2 : Below W0.heap.size W0 W := hB.trans (hBW.mono hB.size)
      have hx0'' := bel_heap hb2 hx0
      have hb3 : Below w.heap.size w W := hB0.trans (hb2.mono hB0.size)
      exact app1_any (h.below hb3) B ok (fun V hV => hesW V ((Out.of_below (X := A) hb3).trans hV (fun i hi _ => hi))) (by simp only [World.cell?, hx0'']; rfl) (bel_heap hb2 hx1)
    · rintro e w2 ⟨rfl, hT⟩
      exact ⟨rfl, Wth.of_below h hBw hT⟩
  have hmf : ∀ (fn : Fn) (first cap : Array Value) (w : World), (Instr.makeFunc fn first cap).run Tryz.prog w = .ok (.func fn first cap) w := fun _ _ _ _ => rfl
  clear h h1 hbr hck ok hes hesW hW0 hB0 hx0 hx1
  generalize X.put B = XP at *
  unfold Bt.val
  generalize B.es.length = bl at *
  go_enter Tryz.func34, Tryz.ntmps34
  go_upto_region 1 with fail
  rw [HW.out]
  go_wp2_with (first
    | (go_at_call 79; refine HCK.out.mono ?_; rintro e w1 ⟨rfl, k0, hwr⟩; have HWR : Hid _ := hwr; clear hwr)
    | (go_at_call 48; refine Calls.mono HWR.out ?_; rintro e w2 ⟨rfl, HT⟩)
    | fail)
  go_ret
  exact ⟨rfl, HT.out⟩

set_option maxRecDepth 100000 in
set_option maxHeartbeats 1000000 in
theorem append_err {A : Nat → Prop} {w : World} {wb d : Nat} {X : WS} (h : Wl A w wb d X) (hbr : X.br = false) (B : Bt) (hck : B.chk X.J ≠ 0) (hes : EntsAt w.heap.size w B.a B.es) (hcp : B.es.length ≤ B.cp ∧ B.cp ≤ maxLen) (hlen : B.es.length ≤ 1000000000) :
    Calls Tryz.prog 34 #[.pointer (some ⟨wb, 0, none⟩), B.val] w fun e w' => e = .returned (.int .i64 ((B.chk X.J : Nat) : Int)) ∧ Below w.heap.size w w' := by
  obtain ⟨W0, hW0⟩ : ∃ W0, (w.alloc (.cells #[.pointer (some ⟨wb, 0, none⟩)] 31)).alloc (.cells #[.bool B.has, .int .i64 B.t, .int .i64 B.v, .int .i64 B.c, .int .i64 B.i, .int .i64 B.tm, .slice B.a B.es.length B.cp] 39) = W0 := ⟨_, rfl⟩
  have HW : Hid (_ = W0) := hW0
  have hB0 : Below w.heap.size w W0 := by rw [← hW0]; exact ((Below.refl _ w).alloc (Nat.le_refl _) _).alloc (by simp) _
  have hx0 : W0.heap[w.heap.size]? = some (.cells #[.pointer (some ⟨wb, 0, none⟩)] 31 (0, 0)) := by rw [← hW0]; exact (two_new w _ _).1
  have hx1 : W0.heap[w.heap.size + 1]? = some (.cells #[.bool B.has, .int .i64 B.t, .int .i64 B.v, .int .i64 B.c, .int .i64 B.i, .int .i64 B.tm, .slice B.a B.es.length B.cp] 39 (0, 0)) := by rw [← hW0]; exact (two_new w _ _).2
  have c0 : W0.cell? ⟨w.heap.size, 0, none⟩ = some (.pointer (some ⟨wb, 0, none⟩)) := by simp only [World.cell?, hx0]; rfl
  have h1 := h.below hB0
  have w4 : W0.cell? ⟨wb, 4, none⟩ = some (.bool false) := by
    obtain ⟨S, L, b, sv, k, q⟩ := h1
    rw [← hbr]
    exact (cells5w q.hw).1.2.2.2.2
  obtain ⟨⟨b0, b1, b2, b3, b4, b5, b6⟩, -⟩ := cells7 hx1
  obtain ⟨ce, hce⟩ : ∃ ce, B.chk X.J = ce := ⟨_, rfl⟩
  rw [hce] at hck ⊢
  have hc2 : ((ce : Int) != 0) = true := by simp; omega
  have HCK : Hid (Calls Tryz.prog 79 #[.pointer (some ⟨wb, 0, none⟩), .agg #[.bool B.has, .int .i64 B.t, .int .i64 B.v, .int .i64 B.c, .int .i64 B.i, .int .i64 B.tm, .slice B.a B.es.length B.cp]] W0 fun e w' => e = .returned (.int .i64 (ce : Int)) ∧ Hid (Below w.heap.size w w')) := by
    have := check_any h1 B ((hes.below hB0).mono hB0.size) hcp hlen
    rw [hce] at this
    exact this.mono fun e w' ⟨he, hB⟩ => ⟨he, hB0.trans (hB.mono hB0.size)⟩
  clear h h1 hbr hck hes hW0 hB0 hx0 hx1 hce hcp hlen
  unfold Bt.val
  generalize B.es.length = bl at *
  go_enter Tryz.func34, Tryz.ntmps34
  go_upto_region 1 with fail
  rw [HW.out]
  go_wp2_with (go_at_call 79; refine HCK.out.mono ?_; rintro e w1 ⟨rfl, HB⟩)
  go_ret
  exact ⟨rfl, HB.out⟩
end Go.Proofs.YtnahghldlkjleaaGreatDoor
namespace Go.Proofs.YtnahghldlkjleaaGreatDoor
open Go.RowKit
set_option linter.unusedVariables false

set_option maxRecDepth 100000 in
theorem face_okb (F : Nat) (caps : Array Value) (w : World) (R : World → Prop) (hent : ∀ (args : Array Value) (w : World), (callFunc F args).run Tryz.prog w = .ok (.enter F args) w)
    (hc : Calls Tryz.prog F caps (w.alloc (.cells #[.int .i64 0] 45)) fun e w' => e = .returned (.tuple #[]) ∧ w'.heap[w.heap.size]? = some (.cells #[.int .i64 0] 45 (0, 0)) ∧ R (w'.setCell ⟨w.heap.size, 0, none⟩ (.int .i64 0))) :
    Calls Tryz.prog 74 #[.func (.func F) caps #[]] w fun e w' => e = .returned (.int .i64 0) ∧ R w' := by
  have hmf : ∀ (fn : Fn) (first cap : Array Value) (w : World), (Instr.makeFunc fn first cap).run Tryz.prog w = .ok (.func fn first cap) w := fun _ _ _ _ => rfl
  go_enter_defers Tryz.func74, Tryz.ntmps74
  go_wp2_with fail
  refine hc.mono ?_
  rintro e w1 ⟨rfl, hx, hR⟩
  have c0 : w1.cell? ⟨w.heap.size, 0, none⟩ = some (.int .i64 0) := by simp only [World.cell?, hx]; rfl
  have f0 : w1.frozen? ⟨w.heap.size, 0, none⟩ = false := by simp [World.frozen?, hx]
  have hx2 : (w1.setCell ⟨w.heap.size, 0, none⟩ (.int .i64 0)).cell? ⟨w.heap.size, 0, none⟩ = some (.int .i64 0) := by
    have := heap_set hx 0 (.int .i64 0)
    simp only [World.cell?, this]; rfl
  go_wp2
  refine leaves_cons (f := 107) (args := #[.pointer (some ⟨w.heap.size, 0, none⟩)]) (by simp) (by simp [go_sem]) ?_
  refine (face_idle ⟨w.heap.size, 0, none⟩ _).mono ?_
  rintro e u' w'' ⟨rfl, rfl, rfl⟩
  simp [Leaves, settle, results, Tryz.results74, go_sem, hx2, hR]
set_option maxRecDepth 100000 in
theorem write_okb {A : Nat → Prop} {w : World} {wb d : Nat} {X X' : WS} (h : Wl A w wb d X) (F : Nat) (caps : Array Value) (hent : ∀ (args : Array Value) (w : World), (callFunc F args).run Tryz.prog w = .ok (.enter F args) w)
    (hc : ∀ W, Below w.heap.size w W → Calls Tryz.prog F caps W fun e w' => e = .returned (.tuple #[]) ∧ Wth A W w' wb d X') :
    Calls Tryz.prog 48 #[.pointer (some ⟨wb, 0, none⟩), .func (.func F) caps #[]] w fun e w' => e = .returned (.int .i64 0) ∧ Wth A w w' wb d { X' with br := false } := by
  have hB : Below w.heap.size w (w.alloc (.cells #[.int .i64 0] 45)) := (Below.refl _ w).alloc (Nat.le_refl _) _
  have HF : Hid (Calls Tryz.prog 74 #[.func (.func F) caps #[]] w fun e w' => e = .returned (.int .i64 0) ∧ (∃ v, w'.cell? ⟨wb, 4, none⟩ = some v) ∧ w'.frozen? ⟨wb, 4, none⟩ = false ∧ Hid (Wth A w (w'.setCell ⟨wb, 4, none⟩ (.bool false)) wb d { X' with br := false })) := by
    refine (face_okb F caps w (fun w' => Wth A w w' wb d X') hent ?_).mono ?_
    · refine (hc _ hB).mono ?_
      rintro e w1 ⟨rfl, hT⟩
      have hna : ¬ A w.heap.size := fun ha => by have := h.inn _ ha; omega
      have hx : w1.heap[w.heap.size]? = some (.cells #[.int .i64 0] 45 (0, 0)) := (hT.out.block _ (by simp) hna).trans (heap_alloc_new w _)
      exact ⟨rfl, hx, hT.side h hB (Nat.le_refl _) (by simp) 0 _⟩
    · rintro e w' ⟨rfl, hT⟩
      obtain ⟨k1, k2, k3⟩ := hT.q.mark false
      exact ⟨rfl, k1, k2, hT.trans k3⟩
  clear h hc hB
  go_enter Tryz.func48, Tryz.ntmps48
  go_wp2_with (go_at_call 74; refine HF.out.mono ?_; rintro e w1 ⟨rfl, ⟨v, k1⟩, k2, HT⟩)
  go_ret
  exact ⟨rfl, HT.out⟩

theorem entSy (args : Array Value) (w : World) : (callFunc 49 args).run Tryz.prog w = .ok (.enter 49 args) w := by
  simp [callFunc, Tryz.func49, Tryz.f49, mark]
set_option maxRecDepth 100000 in
theorem sync_ok {A : Nat → Prop} {w : World} {wb d : Nat} {X : WS} (h : Wl A w wb d X) (hbr : X.br = false) (hn : X.sg ≠ []) (hfew : X.sg.length ≤ 1000000000) (hl : X.last.n ≤ 99999999) (p' : PD) (hx : doSync X.p (nmL X.last.n) = (0, p')) :
    Calls Tryz.prog 18 #[.pointer (some ⟨wb, 0, none⟩)] w fun e w' => e = .returned (.int .i64 0) ∧ Wth A w w' wb d { X with p := p', br := false } := by
  have HW : Hid (Calls Tryz.prog 48 #[.pointer (some ⟨wb, 0, none⟩), .func (.func 49) #[.pointer (some ⟨wb, 0, none⟩)] #[]] w fun e w' => e = .returned (.int .i64 0) ∧ Wth A w w' wb d { X with p := p', br := false }) :=
    write_okb (X' := { X with p := p' }) h _ _ entSy (fun W hB => syncW_any (h.below hB) hn hfew hl p' hx)
  have w4 : w.cell? ⟨wb, 4, none⟩ = some (.bool false) := by
    obtain ⟨S, L, b, sv, k, q⟩ := h
    rw [← hbr]
    exact (cells5w q.hw).1.2.2.2.2
  have hmf : ∀ (fn : Fn) (first cap : Array Value) (w : World), (Instr.makeFunc fn first cap).run Tryz.prog w = .ok (.func fn first cap) w := fun _ _ _ _ => rfl
  clear h hbr hx
  go_enter Tryz.func18, Tryz.ntmps18
  go_wp2_with (go_at_call 48; refine HW.out.mono ?_; rintro e w2 ⟨rfl, HT⟩)
  go_ret
  exact ⟨rfl, HT⟩
end Go.Proofs.YtnahghldlkjleaaGreatDoor
namespace Go.Proofs.YtnahghldlkjleaaGreatDoor
open Go.RowKit
set_option linter.unusedVariables false

theorem texts_ro {N : Nat} {w : World} {v : Value} {ts : List (List UInt8)} (h : TextsIn N w v ts) : Ro RS N w v ts := by
  have e : ts.flatMap RS.enc = ts.map encStr := by
    clear h
    induction ts with
    | nil => rfl
    | cons t q ih => rw [List.flatMap_cons, ih]; rfl
  unfold Ro
  rw [e]
  exact h

set_option maxRecDepth 100000 in
set_option maxHeartbeats 1000000 in
theorem numbersOn_none {S : Nat → Prop} {w : World} {d : Nat} {k : DS} (h : DkC S w d k) (hno : ∀ r ∈ k.rs, numL r.nm = 0) :
    Calls Tryz.prog 108 #[.pointer (some ⟨d, 0, none⟩)] w fun e w' => e = .returned (.slice none 0 0) ∧ Below w.heap.size w w' := by
  have hfew := h.few
  obtain ⟨n, hn⟩ : ∃ n, k.rs.length = n := ⟨_, rfl⟩
  have HL : Hid (Calls Tryz.prog 59 #[.pointer (some ⟨d, 0, none⟩)] w fun e w' => ∃ a c, e = .returned (.slice a n c) ∧ n ≤ c ∧ c ≤ maxLen ∧ Hid (∀ j, j < n → ∃ b l, a = some ⟨b, 0, none⟩ ∧ w'.cell? ⟨b, j, none⟩ = some (.string ⟨l.toArray⟩) ∧ numL l = 0) ∧ Hid (Below w.heap.size w w')) := by
    refine (list_any h).mono ?_
    rintro e w' ⟨v, rfl, ht, hB⟩
    have hr := texts_ro ht
    obtain ⟨a, c, rfl, h1, h2⟩ := hr.shape
    have hl : (k.rs.map Rw.nm).length = n := by simpa using hn
    rw [hl] at h1 hr ⊢
    refine ⟨a, c, rfl, h1, h2, fun j hj => ?_, hB⟩
    obtain ⟨g, cap, he, -, -, -, hc⟩ := hr.at0 (by omega)
    cases he
    have h3 := hc j 0 (by omega) (by decide)
    rw [show j * RS.k + 0 = j by show j * 1 + 0 = j; omega] at h3
    refine ⟨g, (k.rs.map Rw.nm)[j]'(by omega), rfl, h3, ?_⟩
    have hm : (k.rs.map Rw.nm)[j]'(by omega) ∈ k.rs.map Rw.nm := List.getElem_mem _
    obtain ⟨r, hr1, hr2⟩ := List.mem_map.1 hm
    rw [← hr2]
    exact hno r hr1
  have hn256 : n ≤ 256 := by omega
  clear h hno hfew hn
  go_enter Tryz.func108, Tryz.ntmps108
  go_wp2_with (go_at_call 59; refine HL.out.mono ?_; rintro e w1 ⟨a, c, rfl, hc1, hc2, HT, HB⟩; unfold maxLen at hc2)
  go_loopw [3, 11] (fun v3 v11 wr => v3 = .slice none 0 0 ∧ ∃ j : Nat, v11 = .int .i64 (j : Int) ∧ j ≤ n ∧ Hid (∃ q, wr = w1.drewN q)) (fun _ i _ => n - (intOf i).toNat)
  case atStart => exact ⟨rfl, 0, rfl, Nat.zero_le _, 0, rfl⟩
  case round =>
    obtain ⟨rfl, j, rfl, hj, HQ⟩ := hrel
    by_cases hlt : j < n
    · obtain ⟨b, l, hab, hcell, hnum⟩ := HT.out j hlt
      subst hab
      have k0 : wr.cell? ⟨b, j, none⟩ = some (.string ⟨l.toArray⟩) := by
        obtain ⟨q, rfl⟩ := HQ.out
        exact hcell
      have HN : Hid (Calls Tryz.prog 27 #[.string ⟨l.toArray⟩] wr fun e w' => e = .returned (.tuple #[.int .i64 0, .bool false]) ∧ Hid (∃ q, w' = w1.drewN q)) := by
        have := number_any l wr
        rw [hnum] at this
        refine this.mono ?_
        rintro e w' ⟨rfl, m, rfl⟩
        obtain ⟨q, rfl⟩ := HQ.out
        exact ⟨rfl, q + m, World.drewN_drewN _ _ _⟩
      clear hcell hnum HT HB HL
      go_wp2_with (go_at_call 27; refine HN.out.mono ?_; rintro e w2 ⟨rfl, HQ2⟩)
      exact ⟨⟨rfl, j + 1, by go_num, by omega, HQ2⟩, by simp [intOf]; omega⟩
    · have HBz : Hid (Below w.heap.size w wr) := by
        obtain ⟨q, rfl⟩ := HQ.out
        exact below_drewN HB.out q
      clear HT HB HL HQ
      go_wp2_with (go_at_call 161; refine (sort_nilI none 0 wr).mono ?_; rintro e w2 ⟨rfl, hw2⟩; subst w2)
      go_ret
      exact ⟨rfl, HBz.out⟩
end Go.Proofs.YtnahghldlkjleaaGreatDoor
