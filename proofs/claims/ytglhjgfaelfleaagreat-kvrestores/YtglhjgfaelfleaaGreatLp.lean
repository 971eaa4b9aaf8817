/-
  The loader's pairs and sessions; a store whose lists may be anything.
-/
import Derived.Test.YtglhjgfaelfleaaGreatLm
namespace Go.Proofs.YtglhjgfaelfleaaGreat
open Go.RowKit
set_option linter.unusedVariables false

set_option maxRecDepth 100000 in
set_option maxHeartbeats 2000000 in
theorem isKept_any (n : Nat) (W : World) : Calls Tryz.prog 76 #[.int .i64 (n : Int)] W fun e w' => e = .returned (.bool (keptB n)) ∧ w' = W := by
  by_cases h1 : n = 1
  · subst h1
    go_enter Tryz.func76, Tryz.ntmps76
    go_wp2
    go_ret
    exact ⟨rfl, rfl⟩
  · have h1' : ((n : Int) == 1) = false := by simp; omega
    by_cases h2 : n = 2
    · subst h2
      go_enter Tryz.func76, Tryz.ntmps76
      go_wp2
      go_ret
      exact ⟨rfl, rfl⟩
    · have h2' : ((n : Int) == 2) = false := by simp; omega
      by_cases h3 : n = 3
      · subst h3
        go_enter Tryz.func76, Tryz.ntmps76
        go_wp2
        go_ret
        exact ⟨rfl, rfl⟩
      · have h3' : ((n : Int) == 3) = false := by simp; omega
        by_cases h5 : n = 5
        · subst h5
          go_enter Tryz.func76, Tryz.ntmps76
          go_wp2
          go_ret
          exact ⟨rfl, rfl⟩
        · have h5' : ((n : Int) == 5) = false := by simp; omega
          have hk : keptB n = false := by simp [keptB, h1, h2, h3, h5]
          rw [hk]
          go_enter Tryz.func76, Tryz.ntmps76
          go_wp2
          go_ret
          exact ⟨rfl, rfl⟩

theorem Rb.set0 {W : World} {r : Nat} {c : Int} {v : Bs} (h : Rb W r c v) (c' : Int) : Rb (W.setCell ⟨r, 0, none⟩ (.int .i64 c')) r c' v := by
  show (W.heap.modify r _)[r]? = _
  rw [Array.getElem?_eq_getElem (by rw [Array.size_modify]; exact (Array.getElem?_eq_some_iff.1 h).1), Array.getElem_modify_self, (Array.getElem?_eq_some_iff.1 h).2]
  rfl
theorem Rb.set1 {W : World} {r : Nat} {c : Int} {v : Bs} (h : Rb W r c v) (v' : Bs) : Rb (W.setCell ⟨r, 1, none⟩ (.string ⟨v'.toArray⟩)) r c v' := by
  show (W.heap.modify r _)[r]? = _
  rw [Array.getElem?_eq_getElem (by rw [Array.size_modify]; exact (Array.getElem?_eq_some_iff.1 h).1), Array.getElem_modify_self, (Array.getElem?_eq_some_iff.1 h).2]
  rfl
theorem Rb.free {W : World} {r : Nat} {c : Int} {v : Bs} (h : Rb W r c v) : W.frozen? ⟨r, 0, none⟩ = false ∧ W.frozen? ⟨r, 1, none⟩ = false := by
  have h' : W.heap[r]? = _ := h
  constructor <;> simp [World.frozen?, h']
theorem Rb.outL {W W' : World} {L R r : Nat} {c : Int} {v : Bs} (h : Rb W r c v) (hO : Out (Lx L R) W W') (hr : L < r ∧ R < r) : Rb W' r c v :=
  (hO.block r (Array.getElem?_eq_some_iff.1 h).1 (by rintro (rfl | rfl) <;> omega)).trans h
theorem Lo.box {w W : World} {L R r o : Nat} {l : Bs} {t : Ld} {c : Int} {v : Bs} {u : Value} (h : Lo w W L R l t) (hr : Rb W r c v) (hw : w.heap.size ≤ r) : Lo w (W.setCell ⟨r, o, none⟩ u) L R l t := by
  have hr' : W.heap[r]? = some (.cells #[.int .i64 c, .string ⟨v.toArray⟩] 40 (0, 0)) := hr
  have hne : L ≠ r := by
    intro e
    have := h.hd
    rw [e, hr'] at this
    simp at this
  exact ⟨h.rdr.kept (grown_set W r o u) (.inr ⟨_, _, _, hr', by decide, by decide⟩), h.len, h.pl, ((grown_set W r o u).block L h.lt.1 (fun e => hne (by cases e; rfl))).trans h.hd, h.bel.grown (grown_set W r o u) h.bel.size (fun k e => by cases e; exact hw), h.low⟩

set_option maxRecDepth 100000 in
set_option maxHeartbeats 2000000 in
theorem reply_any {w W : World} {L R : Nat} {l : Bs} {t : Ld} (h : Lo w W L R l t) :
    Calls Tryz.prog 49 #[.pointer (some ⟨L, 0, none⟩)] W fun e w' => LoR w W L R l (.agg #[.int .i64 (rplF l t).1.code, .string ⟨(rplF l t).1.val.toArray⟩]) (rplF l t).2 e w' := by
  obtain ⟨W0, HW0⟩ : ∃ W0, Hid (W.alloc (.cells #[.int .i64 0, .string ⟨[].toArray⟩] 40) = W0) := ⟨_, rfl⟩
  have hB0 : Below W.heap.size W W0 := by rw [← HW0.out]; exact (Below.refl _ _).alloc (Nat.le_refl _) _
  have HB0 : Hid (Rb W0 W.heap.size 0 []) := by rw [← HW0.out]; exact Rb.new _ _ _
  have HO0 : Hid (Out (Lx L R) W W0) := Out.of_below hB0
  have HLR : Hid ((L < W.heap.size ∧ R < W.heap.size) ∧ w.heap.size ≤ W.heap.size) := ⟨h.lt, h.bel.size⟩
  have CN := number_any (h.below hB0)
  clear hB0
  have HUF : Hid (rplF l t = (⟨((numF l t).1 : Int), (texF l 1024 (mustF (keptB (numF l t).1) 4 (numF l t).2)).1⟩, mustF (decide ((texF l 1024 (mustF (keptB (numF l t).1) 4 (numF l t).2)).1 = [] ∨ (numF l t).1 = 3)) 4 (texF l 1024 (mustF (keptB (numF l t).1) 4 (numF l t).2)).2)) := rfl
  rw [HUF.out]
  clear HUF
  generalize numF l t = nt at *
  obtain ⟨n, t1⟩ := nt
  dsimp only at CN ⊢
  have HM : Hid (∀ V, Lo w V L R l t1 → Calls Tryz.prog 45 #[.pointer (some ⟨L, 0, none⟩), .bool (keptB n), .int .i64 ((4 : Nat) : Int)] V fun e w' => LoR w V L R l (.tuple #[]) (mustF (keptB n) 4 t1) e w') := fun V (h1 : Lo w V L R l t1) => must_any h1 (keptB n) 4
  have CK := isKept_any n
  generalize keptB n = kb at *
  generalize mustF kb 4 t1 = t2 at *
  have HT : Hid (∀ V, Lo w V L R l t2 → Calls Tryz.prog 44 #[.pointer (some ⟨L, 0, none⟩), .int .i64 1024] V fun e w' => LoR w V L R l (.string ⟨(texF l 1024 t2).1.toArray⟩) (texF l 1024 t2).2 e w') := fun V h2 => text_any h2 1024
  generalize texF l 1024 t2 = qt at *
  obtain ⟨q, t3⟩ := qt
  dsimp only at HT ⊢
  have HM2 : Hid (∀ V, Lo w V L R l t3 → Calls Tryz.prog 45 #[.pointer (some ⟨L, 0, none⟩), .bool (decide (q = [] ∨ n = 3)), .int .i64 ((4 : Nat) : Int)] V fun e w' => LoR w V L R l (.tuple #[]) (mustF (decide (q = [] ∨ n = 3)) 4 t3) e w') := fun V h1 => must_any h1 _ 4
  generalize mustF (decide (q = [] ∨ n = 3)) 4 t3 = t4 at *
  clear h
  go_enter Tryz.func49, Tryz.ntmps49
  go_wp2_with fail
  try rw [HW0.out]
  refine CN.mono ?_
  rintro e w1 ⟨rfl, h1, hO1⟩
  have HO1 : Hid (Out (Lx L R) W w1) := HO0.out.trans hO1 (fun _ hi _ => hi)
  have HB1 : Hid (Rb w1 W.heap.size 0 []) := HB0.out.outL hO1 HLR.out.1
  clear HW0 HB0 HO0
  have HL1 : Hid (Lo w w1 L R l t1) := h1
  clear CN hO1 h1
  go_wp2_with fail
  refine (CK w1).mono ?_
  rintro e w1' ⟨rfl, hh⟩
  subst hh
  clear CK
  go_wp2_with fail
  refine (HM.out _ HL1.out).mono ?_
  rintro e w2 ⟨rfl, h2, hO2⟩
  have HO2 : Hid (Out (Lx L R) W w2) := HO1.out.trans hO2 (fun _ hi _ => hi)
  have HL2 : Hid (Lo w w2 L R l t2) := h2
  have HB2 : Hid (Rb w2 W.heap.size 0 []) := HB1.out.outL hO2 HLR.out.1
  clear HB1
  clear HM hO2 h2 HO1 HL1
  go_wp2_with fail
  refine (HT.out _ HL2.out).mono ?_
  rintro e w3 ⟨rfl, h3, hO3⟩
  have HO3 : Hid (Out (Lx L R) W w3) := HO2.out.trans hO3 (fun _ hi _ => hi)
  have HL3 : Hid (Lo w w3 L R l t3) := h3
  have HB3 : Hid (Rb w3 W.heap.size 0 []) := HB2.out.outL hO3 HLR.out.1
  clear HB2
  clear HT hO3 h3 HO2 HL2
  by_cases hq : q = []
  · subst hq
    have hd : decide (([] : Bs) = [] ∨ n = 3) = true := by simp
    rw [hd] at HM2
    go_wp2_with fail
    refine (HM2.out _ HL3.out).mono ?_
    rintro e w4 ⟨rfl, h4, hO4⟩
    have HO4 : Hid (Out (Lx L R) W w4) := HO3.out.trans hO4 (fun _ hi _ => hi)
    have HL4 : Hid (Lo w w4 L R l t4) := h4
    have hb4 : Rb w4 W.heap.size 0 [] := HB3.out.outL hO4 HLR.out.1
    have HB4 : Hid (Rb w4 W.heap.size 0 []) := hb4
    obtain ⟨m0, m1⟩ := hb4.cells
    obtain ⟨f0, f1⟩ := hb4.free
    clear hO4 h4 HO3 HL3 HM2 hb4 HB3
    go_wp2
    refine bodyPost_ret (v := .agg #[.int .i64 (n : Int), .string ⟨[].toArray⟩]) (by simp [results, Tryz.results49, go_sem, m0, m1]) rfl ⟨rfl, ?_, ?_⟩
    · exact (HL4.out.box HB4.out HLR.out.2).box (HB4.out.set0 (n : Int)) HLR.out.2
    · exact HO4.out.trans (Y := fun i => i = W.heap.size) ((Out.set (X := fun i => i = W.heap.size) (w := w4) (b := W.heap.size) (o := 0) (u := .int .i64 (n : Int)) rfl).put (o := 1) (u := .string ⟨[].toArray⟩) rfl) (fun i hi hl => by omega)
  · have hq' : (q == []) = false := by simpa using hq
    by_cases hn : n = 3
    · subst hn
      have hd : decide (q = [] ∨ 3 = 3) = true := by simp
      rw [hd] at HM2
      go_wp2_with fail
      refine (HM2.out _ HL3.out).mono ?_
      rintro e w4 ⟨rfl, h4, hO4⟩
      have HO4 : Hid (Out (Lx L R) W w4) := HO3.out.trans hO4 (fun _ hi _ => hi)
      have HL4 : Hid (Lo w w4 L R l t4) := h4
      have hb4 : Rb w4 W.heap.size 0 [] := HB3.out.outL hO4 HLR.out.1
      have HB4 : Hid (Rb w4 W.heap.size 0 []) := hb4
      obtain ⟨m0, m1⟩ := hb4.cells
      obtain ⟨f0, f1⟩ := hb4.free
      clear hO4 h4 HO3 HL3 HM2 hb4 HB3
      go_wp2
      refine bodyPost_ret (v := .agg #[.int .i64 3, .string ⟨q.toArray⟩]) (by simp [results, Tryz.results49, go_sem, m0, m1]) rfl ⟨rfl, ?_, ?_⟩
      · exact (HL4.out.box HB4.out HLR.out.2).box (HB4.out.set0 3) HLR.out.2
      · exact HO4.out.trans (Y := fun i => i = W.heap.size) ((Out.set (X := fun i => i = W.heap.size) (w := w4) (b := W.heap.size) (o := 0) (u := .int .i64 3) rfl).put (o := 1) (u := .string ⟨q.toArray⟩) rfl) (fun i hi hl => by omega)
    · have hn' : ((n : Int) == 3) = false := by simp; omega
      have hd : decide (q = [] ∨ n = 3) = false := by simp [hq, hn]
      rw [hd] at HM2
      go_wp2_with fail
      refine (HM2.out _ HL3.out).mono ?_
      rintro e w4 ⟨rfl, h4, hO4⟩
      have HO4 : Hid (Out (Lx L R) W w4) := HO3.out.trans hO4 (fun _ hi _ => hi)
      have HL4 : Hid (Lo w w4 L R l t4) := h4
      have hb4 : Rb w4 W.heap.size 0 [] := HB3.out.outL hO4 HLR.out.1
      have HB4 : Hid (Rb w4 W.heap.size 0 []) := hb4
      obtain ⟨m0, m1⟩ := hb4.cells
      obtain ⟨f0, f1⟩ := hb4.free
      clear hO4 h4 HO3 HL3 HM2 hb4 HB3
      go_wp2
      refine bodyPost_ret (v := .agg #[.int .i64 (n : Int), .string ⟨q.toArray⟩]) (by simp [results, Tryz.results49, go_sem, m0, m1]) rfl ⟨rfl, ?_, ?_⟩
      · exact (HL4.out.box HB4.out HLR.out.2).box (HB4.out.set0 (n : Int)) HLR.out.2
      · exact HO4.out.trans (Y := fun i => i = W.heap.size) ((Out.set (X := fun i => i = W.heap.size) (w := w4) (b := W.heap.size) (o := 0) (u := .int .i64 (n : Int)) rfl).put (o := 1) (u := .string ⟨q.toArray⟩) rfl) (fun i hi hl => by omega)

/-- Block b holds a store, of any lists. -/
structure Sw (w : World) (b mp ms : Nat) (K : KV) : Prop where
  hd : w.heap[b]? = some (.cells #[.map (some mp), .map (some ms)] 77 (0, 0))
  hp : w.ownsMap Tryz.prog 9 rdV mp K.ps.length (entsL kP pairV K.ps)
  hs : w.ownsMap Tryz.prog 3 rdV ms K.ss.length (entsL kS Se.v K.ss)
  ne : mp ≠ ms
theorem St.sw {w : World} {b mp ms : Nat} {K : KV} (h : St w b mp ms K) : Sw w b mp ms K := ⟨h.hd, h.hp, h.hs, h.ne⟩
theorem Sw.st {w : World} {b mp ms : Nat} {K : KV} (h : Sw w b mp ms K) (ok : K.Ok) : St w b mp ms K := ⟨h.hd, h.hp, h.hs, h.ne, ok⟩
theorem Sw.nb {w : World} {b mp ms : Nat} {K : KV} (h : Sw w b mp ms K) : b ≠ mp ∧ b ≠ ms := by
  obtain ⟨es, clock, hb, _⟩ := h.hp
  obtain ⟨es', clock', hb', _⟩ := h.hs
  have := h.hd
  exact ⟨fun e => (by rw [e, hb] at this; cases this), fun e => (by rw [e, hb'] at this; cases this)⟩
theorem Sw.lt {w : World} {b mp ms : Nat} {K : KV} (h : Sw w b mp ms K) : b < w.heap.size ∧ mp < w.heap.size ∧ ms < w.heap.size := ⟨(Array.getElem?_eq_some_iff.1 h.hd).1, h.hp.lt, h.hs.lt⟩
theorem Sw.out {X : Nat → Prop} {w w' : World} {b mp ms : Nat} {K : KV} (h : Sw w b mp ms K) (hO : Out X w w') (h1 : ¬ X b) (h2 : ¬ X mp) (h3 : ¬ X ms) : Sw w' b mp ms K :=
  ⟨(hO.block b h.lt.1 h1).trans h.hd, ownsMap_out h.hp hO h2, ownsMap_out h.hs hO h3, h.ne⟩
theorem Sw.below {w w' : World} {b mp ms : Nat} {K : KV} (h : Sw w b mp ms K) (hB : Below w.heap.size w w') : Sw w' b mp ms K := h.out (X := fun _ => False) (Out.of_below hB) id id id
theorem Sw.alloc {w : World} {b mp ms : Nat} {K : KV} (h : Sw w b mp ms K) (o : Obj) : Sw (w.alloc o) b mp ms K := h.below ((Below.refl _ _).alloc (Nat.le_refl _) _)
theorem Sw.drewN {w : World} {b mp ms : Nat} {K : KV} (h : Sw w b mp ms K) (n : Nat) : Sw (w.drewN n) b mp ms K := h.out (X := fun _ => False) (Out.drew w n) id id id
theorem Sw.cells {w : World} {b mp ms : Nat} {K : KV} (h : Sw w b mp ms K) : w.cell? ⟨b, 0, none⟩ = some (.map (some mp)) ∧ w.cell? ⟨b, 1, none⟩ = some (.map (some ms)) := by
  constructor <;> (simp only [World.cell?, h.hd]; rfl)
theorem Sw.risP {w : World} {b mp ms : Nat} {K : KV} (h : Sw w b mp ms K) : Ris kP K.ps := canon_ris (h.hp.canon lawS)
theorem Sw.risS {w : World} {b mp ms : Nat} {K : KV} (h : Sw w b mp ms K) : Ris kS K.ss := canon_ris (h.hs.canon lawI)
theorem Sw.putP {w : World} {b mp ms : Nat} {K : KV} (h : Sw w b mp ms K) (k v : Bs) (hk : k.length ≤ 1099511627776) (hf : K.ps.length ≤ 1000) :
    ∃ w', (Instr.mapUpdate 71 (.map (some mp)) (.string ⟨k.toArray⟩) (.agg #[.string ⟨k.toArray⟩, .string ⟨v.toArray⟩])).run Tryz.prog w = .ok () w' ∧ Sw w' b mp ms { K with ps := putK kP (k, v) K.ps } ∧ Out (· = mp) w w' ∧ w'.heap.size = w.heap.size := by
  obtain ⟨w', hr, h1, h2⟩ := h.hp.store lawS Tryz.underlying71 (by unfold maxLen; omega) (val := .agg #[.string ⟨k.toArray⟩, .string ⟨v.toArray⟩]) (d := .held (pairV (k, v))) (ps := []) (keyS k hk) rfl
  have hO := turned_out h2
  have e : (entsL kP pairV K.ps).put (.string k) (.held (pairV (k, v))) = entsL kP pairV (putK kP (k, v) K.ps) := put_ents kP pairV K.ps (k, v)
  rw [e] at h1
  have h1' := ownsMap_tight h1
  rw [List.length_map] at h1'
  obtain ⟨es, cl, es', cl', _, hw⟩ := h2
  exact ⟨w', hr, ⟨(hO.block b h.lt.1 h.nb.1).trans h.hd, h1', ownsMap_out h.hs hO (fun e => h.ne e.symm), h.ne⟩, hO, by rw [hw]; simp [Go.ChangeMaps.setBlock]⟩
theorem Sw.putS {w : World} {b mp ms : Nat} {K : KV} (h : Sw w b mp ms K) (s : Se) (hn : 0 ≤ s.cl ∧ s.cl ≤ 4611686018427387904) (hf : K.ss.length ≤ 1000) :
    ∃ w', (Instr.mapUpdate 75 (.map (some ms)) (.int .i64 s.cl) (.agg #[.int .i64 s.cl, .int .i64 s.sq, .int .i64 s.rp.code, .string ⟨s.rp.val.toArray⟩])).run Tryz.prog w = .ok () w' ∧ Sw w' b mp ms { K with ss := putK kS s K.ss } ∧ Out (· = ms) w w' ∧ w'.heap.size = w.heap.size := by
  obtain ⟨w', hr, h1, h2⟩ := h.hs.store lawI Tryz.underlying75 (by unfold maxLen; omega) (val := .agg #[.int .i64 s.cl, .int .i64 s.sq, .int .i64 s.rp.code, .string ⟨s.rp.val.toArray⟩]) (d := .held s.v) (ps := []) (keyI s.cl hn) rfl
  have hO := turned_out h2
  have e : (entsL kS Se.v K.ss).put (.int .i64 s.cl) (.held s.v) = entsL kS Se.v (putK kS s K.ss) := put_ents kS Se.v K.ss s
  rw [e] at h1
  have h1' := ownsMap_tight h1
  rw [List.length_map] at h1'
  obtain ⟨es, cl, es', cl', _, hw⟩ := h2
  exact ⟨w', hr, ⟨(hO.block b h.lt.1 h.nb.2).trans h.hd, ownsMap_out h.hp hO h.ne, h1', h.ne⟩, hO, by rw [hw]; simp [Go.ChangeMaps.setBlock]⟩

set_option maxRecDepth 100000 in
set_option maxHeartbeats 2000000 in
theorem setw_any {w : World} {b mp ms : Nat} {K : KV} (h : Sw w b mp ms K) (k v : Bs) (hk : k.length ≤ 1099511627776) (hf : K.ps.length ≤ 1000) :
    Calls Tryz.prog 46 #[.pointer (some ⟨b, 0, none⟩), .string ⟨k.toArray⟩, .string ⟨v.toArray⟩] w fun e w' => e = .returned (.agg #[.int .i64 1, .string ⟨[].toArray⟩]) ∧ Sw w' b mp ms { K with ps := putK kP (k, v) K.ps } ∧ Out (· = mp) w w' := by
  obtain ⟨c0, c1⟩ := h.cells
  have hb := h.lt.1
  obtain ⟨o, ho⟩ : ∃ o : Obj, o = .cells #[.int .i64 0, .string ⟨[].toArray⟩] 40 := ⟨_, rfl⟩
  obtain ⟨w1, hr, h1, hO, hz⟩ := (h.alloc o).putP k v hk hf
  have e1 : w1.heap[w.heap.size]? = some o := by
    rw [hO.block _ (by simp) (by have := h.lt.2.1; omega)]; exact heap_alloc_new w o
  subst ho
  have hc0 : w1.cell? ⟨w.heap.size, 0, none⟩ = some (.int .i64 0) := by simp only [World.cell?, e1]; rfl
  have hc1 : w1.cell? ⟨w.heap.size, 1, none⟩ = some (.string ⟨[].toArray⟩) := by simp only [World.cell?, e1]; rfl
  have hf0 : w1.frozen? ⟨w.heap.size, 0, none⟩ = false := by simp [World.frozen?, e1]
  have hf1 : w1.frozen? ⟨w.heap.size, 1, none⟩ = false := by simp [World.frozen?, e1]
  have HZ : Hid (w1.heap.size = w.heap.size + 1) := by rw [hz]; exact World.size_alloc ..
  have H1 : Hid (Sw w1 b mp ms { K with ps := putK kP (k, v) K.ps }) := h1
  have HO : Hid (Out (· = mp) w w1) := (Out.of_below (X := (· = mp)) ((Below.refl _ w).alloc (Nat.le_refl _) _)).trans hO (fun i hi _ => hi)
  have HN : Hid (∀ i, i = w.heap.size → ¬ i = b ∧ ¬ i = mp ∧ ¬ i = ms) := fun i hi => by have := h.lt; omega
  clear h h1 hO e1 hz hf
  go_enter Tryz.func46, Tryz.ntmps46
  go_wp2
  refine bodyPost_ret (v := .agg #[.int .i64 1, .string ⟨[].toArray⟩]) (by simp [results, Tryz.results46, go_sem, hc0, hc1]) rfl ⟨rfl, ?_, ?_⟩
  · have hw : Out (fun i => i = w.heap.size) w1 _ := (Out.set (X := fun i => i = w.heap.size) (w := w1) (b := w.heap.size) (o := 0) (u := .int .i64 1) rfl).put (o := 1) (u := .string ⟨[].toArray⟩) rfl
    exact H1.out.out hw (fun e => (HN.out _ e).1 rfl) (fun e => (HN.out _ e).2.1 rfl) (fun e => (HN.out _ e).2.2 rfl)
  · exact HO.out.trans (Y := fun i => i = w.heap.size) ((Out.set (X := fun i => i = w.heap.size) (w := w1) (b := w.heap.size) (o := 0) (u := .int .i64 1) rfl).put (o := 1) (u := .string ⟨[].toArray⟩) rfl) (fun i hi hl => by omega)

/-- k times. -/
def itr {α : Type} (f : α → α) : Nat → α → α
  | 0, x => x
  | k + 1, x => f (itr f k x)
/-- A pair is read. -/
def pairF (l : Bs) (x : (Bs × List (Bs × Bs)) × Ld) : (Bs × List (Bs × Bs)) × Ld :=
  let r := texF l 64 x.2
  let q := texF l 1024 (mustF (bytesBefore x.1.1 r.1) 4 r.2)
  ((r.1, putK kP (r.1, q.1) x.1.2), q.2)
/-- A session is read. -/
def sesF (l : Bs) (x : (Nat × List Se) × Ld) : (Nat × List Se) × Ld :=
  let r := numF l x.2
  let s := seqF l (mustF (decide (x.1.1 < r.1)) 4 r.2)
  let q := rplF l s.2
  ((r.1, putK kS ⟨(r.1 : Int), (s.1 : Int), q.1⟩ x.1.2), q.2)
/-- A store and a loader, one beside the other. -/
structure Ls (w W : World) (L R : Nat) (l : Bs) (t : Ld) (b mp ms : Nat) (K : KV) : Prop where
  lo : Lo w W L R l t
  sw : Sw W b mp ms K
  lm : w.heap.size ≤ mp ∧ w.heap.size ≤ ms
theorem Ls.ap {w W : World} {L R : Nat} {l : Bs} {t : Ld} {b mp ms : Nat} {K : KV} (h : Ls w W L R l t b mp ms K) : ¬ Lx L R b ∧ ¬ Lx L R mp ∧ ¬ Lx L R ms := by
  obtain ⟨cs, z, hR⟩ := h.lo.rdr.at0
  obtain ⟨es, cl, hb, _⟩ := h.sw.hp
  obtain ⟨es', cl', hb', _⟩ := h.sw.hs
  have hL := h.lo.hd
  have hB := h.sw.hd
  refine ⟨?_, ?_, ?_⟩
  · rintro (rfl | rfl)
    · rw [hB] at hL; simp at hL
    · rw [hB] at hR; simp at hR
  · rintro (rfl | rfl)
    · rw [hb] at hL; cases hL
    · rw [hb] at hR; cases hR
  · rintro (rfl | rfl)
    · rw [hb'] at hL; cases hL
    · rw [hb'] at hR; cases hR
/-- The loader goes on. -/
theorem Ls.go {w W W' : World} {L R : Nat} {l : Bs} {t t' : Ld} {b mp ms : Nat} {K : KV} (h : Ls w W L R l t b mp ms K) (h' : Lo w W' L R l t') (hO : Out (Lx L R) W W') : Ls w W' L R l t' b mp ms K :=
  ⟨h', h.sw.out hO h.ap.1 h.ap.2.1 h.ap.2.2, h.lm⟩
/-- The store goes on. -/
theorem Ls.st {w W W' : World} {L R : Nat} {l : Bs} {t : Ld} {b mp ms : Nat} {K K' : KV} (h : Ls w W L R l t b mp ms K) (h' : Sw W' b mp ms K') (hO : Out (Mx mp ms) W W') : Ls w W' L R l t b mp ms K' := by
  have hk : Kpt mp ms W W' := by
    refine ⟨hO.size, fun i x hx hi => (hO.block i (Array.getElem?_eq_some_iff.1 hi).1 (fun e => ?_)).trans hi⟩
    obtain ⟨es, cl, hb, _⟩ := h.sw.hp
    obtain ⟨es', cl', hb', _⟩ := h.sw.hs
    rcases e with rfl | rfl
    · rw [hb] at hi; cases hi; exact hx _ _ rfl
    · rw [hb'] at hi; cases hi; exact hx _ _ rfl
  exact ⟨h.lo.kpt hk (out_bel h.lo.bel hO h.lm), h', h.lm⟩
theorem len_putK_le {α : Type} {κ : α → Lit} (x : α) (xs : List α) : (putK κ x xs).length ≤ xs.length + 1 := by
  unfold putK; rw [len_insK]; have := len_delK (κ := κ) (κ x) xs; omega
theorem texF_len (l : Bs) (most : Int) (t : Ld) : (texF l most t).1.length ≤ l.length := by
  show (takeAt l t.p t.e most).1.length ≤ _
  unfold takeAt
  split
  · simp
  · split
    · simp
    · split
      · simp
      · simp; omega
theorem numF_le (l : Bs) (t : Ld) : (numF l t).1 ≤ 4611686018427387904 := (pk_bd l t.p t.e).1
theorem cntF_le (l : Bs) (most : Nat) (t : Ld) : (cntF l most t).1 ≤ most := by
  unfold cntF
  dsimp only
  split
  · rename_i h
    unfold mustF at h
    by_cases hc : (numF l t).1 ≤ most
    · exact hc
    · exfalso
      split at h
      · simp at h
      · rename_i h2
        exact h2 ⟨by simpa using hc, h⟩
  · exact Nat.zero_le _
end Go.Proofs.YtglhjgfaelfleaaGreat
