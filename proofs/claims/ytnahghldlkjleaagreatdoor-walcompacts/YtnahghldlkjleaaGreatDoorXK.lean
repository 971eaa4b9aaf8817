/-
  What a batch does, plainly. A batch is put.
-/
import Derived.Test.YtnahghldlkjleaaGreatDoorXj
import Derived.Test.YtnahghldlkjleaaGreatDoorXjr
namespace Go.Proofs.YtnahghldlkjleaaGreatDoor
open Go.RowKit
set_option linter.unusedVariables false

abbrev RKey := Nat × Nat × Int × Int × Int × Int × Int × En
/-- What a record says. -/
def Rd.key (r : Rd) : RKey := (r.k, r.sg, r.t, r.v, r.c, r.i, r.tm, r.e.says)
theorem Rd.key_eq {r r' : Rd} (h : r.key = r'.key) : r.k = r'.k ∧ r.sg = r'.sg ∧ r.t = r'.t ∧ r.v = r'.v ∧ r.c = r'.c ∧ r.i = r'.i ∧ r.tm = r'.tm ∧ r.e.says = r'.e.says := by
  simpa [Rd.key] using h
theorem tx_key {r r' : Rd} (h : r.key = r'.key) : r.tx = r'.tx := by
  obtain ⟨h1, h2, h3, h4, h5, h6, h7, h8⟩ := Rd.key_eq h
  unfold Rd.tx
  rw [h1, h2, h3, h4, h5, h6, h7, h8]
theorem take_key {r r' : Rd} (h : r.key = r'.key) (P : LP) : P.take r = P.take r' := by
  obtain ⟨h1, h2, h3, h4, h5, h6, h7, h8⟩ := Rd.key_eq h
  unfold LP.take
  rw [h1, h2, h3, h4, h5, h6, h7, h8]
theorem num_key {r r' : Rd} (h : r.key = r'.key) (hn : r'.Num) : r.Num := by
  obtain ⟨h1, h2, h3, h4, h5, h6, h7, h8⟩ := Rd.key_eq h
  refine ⟨by rw [h1]; exact hn.kd, by rw [h2]; exact hn.sg, by rw [h3, h4, h5]; exact hn.st, by rw [h6, h7]; exact hn.mrk, fun hk => by rw [h8]; exact hn.ent (by rw [← h1]; exact hk)⟩
theorem fit_key {r r' : Rd} (h : r.key = r'.key) {P : LP} (hn : r'.Fit P) : r.Fit P := by
  obtain ⟨h1, h2, h3, h4, h5, h6, h7, h8⟩ := Rd.key_eq h
  have hi : r.e.i = r'.e.i := congrArg eI h8
  refine ⟨by rw [h1]; exact hn.kd, by rw [h3, h4, h5]; exact hn.st, by rw [h6, h7]; exact hn.mrk, fun hk => by rw [h8, hi]; exact hn.ent (by rw [← h1]; exact hk), by rw [h2]; exact hn.sg⟩
theorem keys_at {rs rs' : List Rd} (h : rs.map Rd.key = rs'.map Rd.key) : rs.length = rs'.length := by simpa using congrArg List.length h
theorem keys_tx {rs rs' : List Rd} (h : rs.map Rd.key = rs'.map Rd.key) : rs.map Rd.tx = rs'.map Rd.tx := by
  induction rs generalizing rs' with
  | nil => cases rs' with
    | nil => rfl
    | cons r q => simp at h
  | cons r q ih => cases rs' with
    | nil => simp at h
    | cons r' q' =>
      simp only [List.map_cons, List.cons.injEq] at h ⊢
      exact ⟨tx_key h.1, ih h.2⟩
theorem keys_txs {rs rs' : List Rd} (h : rs.map Rd.key = rs'.map Rd.key) : txsB rs = txsB rs' := by unfold txsB; rw [keys_tx h]
/-- What records do, one behind the other. -/
def LP.run (P : LP) (rs : List Rd) : LP := rs.foldl LP.take P
theorem keys_run {rs rs' : List Rd} (h : rs.map Rd.key = rs'.map Rd.key) (P : LP) : P.run rs = P.run rs' := by
  induction rs generalizing rs' P with
  | nil => cases rs' with
    | nil => rfl
    | cons r q => simp at h
  | cons r q ih => cases rs' with
    | nil => simp at h
    | cons r' q' =>
      simp only [List.map_cons, List.cons.injEq] at h
      show LP.run (P.take r) q = LP.run (P.take r') q'
      rw [take_key h.1, ih h.2]
/-- Records that may stand there, one behind the other. -/
def FitAll : LP → List Rd → Prop
  | _, [] => True
  | P, r :: q => r.Fit P ∧ P.E.length < 1000000000 ∧ FitAll (P.take r) q
theorem keys_fit {rs rs' : List Rd} (h : rs.map Rd.key = rs'.map Rd.key) {P : LP} (hf : FitAll P rs') : FitAll P rs := by
  induction rs generalizing rs' P with
  | nil => trivial
  | cons r q ih => cases rs' with
    | nil => simp at h
    | cons r' q' =>
      simp only [List.map_cons, List.cons.injEq] at h
      refine ⟨fit_key h.1 hf.1, hf.2.1, ?_⟩
      rw [take_key h.1]
      exact ih h.2 hf.2.2
theorem keys_num {rs rs' : List Rd} (h : rs.map Rd.key = rs'.map Rd.key) (hn : ∀ r ∈ rs', r.Num) : ∀ r ∈ rs, r.Num := by
  induction rs generalizing rs' with
  | nil => simp
  | cons r q ih => cases rs' with
    | nil => simp at h
    | cons r' q' =>
      simp only [List.map_cons, List.cons.injEq] at h
      intro x hx
      rcases List.mem_cons.1 hx with rfl | hx
      · exact num_key h.1 (hn _ (List.mem_cons_self ..))
      · exact ih h.2 (fun y hy => hn y (List.mem_cons_of_mem _ hy)) x hx
theorem recs_key (B : Bt) (P : LP) (sg : Nat) {es es' : List Ent} (h : es'.map Ent.says = es.map Ent.says) : (B.recs P sg es').map Rd.key = (B.recs P sg es).map Rd.key := by
  have h1 : ∀ l : List Ent, (l.map (rEn sg)).map Rd.key = (l.map Ent.says).map (fun x => ((2, sg, 0, 0, 0, 0, 0, x) : RKey)) := fun l => by
    rw [List.map_map, List.map_map]; rfl
  unfold Bt.recs
  simp only [List.map_append]
  rw [h1, h1, h]
theorem FitAll.at {P : LP} {rs : List Rd} (h : FitAll P rs) {k : Nat} (hk : k < rs.length) : (rs[k]).Fit (P.run (rs.take k)) ∧ (P.run (rs.take k)).E.length < 1000000000 := by
  induction rs generalizing P k with
  | nil => simp at hk
  | cons r q ih => cases k with
    | zero => exact ⟨h.1, h.2.1⟩
    | succ k => exact ih h.2.2 (by simpa using hk)
theorem run_snoc (P : LP) (rs : List Rd) {k : Nat} (hk : k < rs.length) : P.run (rs.take (k + 1)) = (P.run (rs.take k)).take rs[k] := by
  unfold LP.run
  rw [List.take_succ_eq_append_getElem hk, List.foldl_append]; rfl

/-! ### a wal -/
/-- The wal behind the segment that is begun where the last one is full. -/
def WS.rolled (X : WS) : WS :=
  if X.full ≤ X.last.b then
    (WS.begun { X with p := (doSync X.p (nmL X.last.n)).2 } (X.last.n + 1) (doCreate (doSync X.p (nmL X.last.n)).2 (nmL (X.last.n + 1))).2).headed
      (doSync (doAppend (doCreate (doSync X.p (nmL X.last.n)).2 (nmL (X.last.n + 1))).2 (nmL (X.last.n + 1)) (txsB [X.J.head (X.last.n + 1)])).2 (nmL (X.last.n + 1))).2
  else X
def WS.RollOk (X : WS) : Prop := X.full ≤ X.last.b → (doSync X.p (nmL X.last.n)).1 = 0 ∧ (doCreate (doSync X.p (nmL X.last.n)).2 (nmL (X.last.n + 1))).1 = 0 ∧
  (doAppend (doCreate (doSync X.p (nmL X.last.n)).2 (nmL (X.last.n + 1))).2 (nmL (X.last.n + 1)) (txsB [X.J.head (X.last.n + 1)])).1 = 0 ∧
  (doSync (doAppend (doCreate (doSync X.p (nmL X.last.n)).2 (nmL (X.last.n + 1))).2 (nmL (X.last.n + 1)) (txsB [X.J.head (X.last.n + 1)])).2 (nmL (X.last.n + 1))).1 = 0 ∧ X.last.n + 1 ≤ 99999999
/-- The records of a batch behind that. -/
def WS.recs (X : WS) (B : Bt) : List Rd := B.recs X.J X.last.n B.es
/-- The wal behind records that are written. -/
def WS.wrote (X : WS) (rs : List Rd) : WS := if rs = [] then X else { (WS.grow { X with p := (doAppend X.p (nmL X.last.n) (txsB rs)).2 } (txsB rs).length) with J := X.J.run rs }
def WS.put (X : WS) (B : Bt) : WS := X.rolled.wrote (X.rolled.recs B)
end Go.Proofs.YtnahghldlkjleaaGreatDoor
namespace Go.Proofs.YtnahghldlkjleaaGreatDoor
open Go.RowKit
set_option linter.unusedVariables false

theorem rolled_facts {X : WS} (hn : X.sg ≠ []) (hl : X.last.n ≤ 99999999) (hb : X.last.b ≤ 100000000000) (hok : X.J.Ok) (hr : X.RollOk) : X.rolled.sg ≠ [] ∧ X.rolled.sg.length ≤ X.sg.length + 1 ∧ X.rolled.last.n ≤ 99999999 ∧ X.rolled.last.b ≤ 1000000000000 ∧ X.rolled.J = X.J := by
  unfold WS.rolled
  split
  · rename_i hf
    obtain ⟨h1, h2, h3, h4, h5⟩ := hr hf
    have e1 : ∀ (Y : WS) (p : PD), (Y.headed p).last = ⟨Y.last.n, Y.last.b + (txsB [Y.J.head Y.last.n]).length⟩ := fun Y p => by
      show (Y.sg.dropLast ++ [(⟨Y.last.n, Y.last.b + (txsB [Y.J.head Y.last.n]).length⟩ : Sg)]).getLastD sg0 = _
      simp [List.getLastD_eq_getLast?]
    refine ⟨by rw [headed_sg]; simp, by rw [headed_sg]; simp [WS.begun], ?_, ?_, rfl⟩
    · rw [e1, last_begun]; exact h5
    · rw [e1, last_begun]
      show 0 + _ ≤ _
      have := txsB_len (rs := [X.J.head (X.last.n + 1)]) (fun r hr => by obtain rfl := List.mem_singleton.1 hr; exact head_num hok h5)
      simp only [List.length_cons, List.length_nil] at this
      show 0 + (txsB [X.J.head (X.last.n + 1)]).length ≤ _
      omega
  · exact ⟨hn, Nat.le_succ _, hl, by omega, rfl⟩
theorem RdsAt.same {w w' : World} {a : Option Addr} {rs : List Rd} (h : RdsAt w a rs) (hb : ∀ b off, a = some ⟨b, off, none⟩ → w'.heap[b]? = w.heap[b]?) : RdsAt w' a rs := by
  rcases h with h | ⟨b, off, ha, hlt, hc⟩
  · exact .inl h
  · have e := hb b off ha
    refine .inr ⟨b, off, ha, ?_, fun i hi j hj => ?_⟩
    · by_cases hz : b < w'.heap.size
      · exact hz
      · rw [Array.getElem?_eq_none (by omega), Array.getElem?_eq_getElem hlt] at e
        cases e
    · rw [← hc i hi j hj]
      simp only [World.cell?, e]

theorem out_join {A D : Nat → Prop} {W0 W1 w2 w3 V : World} (o1 : Out A W0 W1) (hb : Below W1.heap.size W1 w2) (o2 : Out (grew A W0 W1) w2 w3) (hD : ∀ i, D i → W1.heap.size ≤ i) (o3 : Out (fun i => grew (grew A W0 W1) w2 w3 i ∨ D i) w3 V) : Out A W0 V := by
  have s1 := o1.size
  have s2 := hb.size
  have s3 := o2.size
  refine ⟨o3.os.trans (o2.os.trans (hb.os.trans o1.os)), o3.tape.trans (o2.tape.trans (hb.tape.trans o1.tape)), o3.output.trans (o2.output.trans (hb.output.trans o1.output)), by have := o3.size; omega, fun i hi hx => ?_⟩
  have n1 : ¬ grew A W0 W1 i := by rintro (h | h); exact hx h; omega
  have n2 : ¬ (grew (grew A W0 W1) w2 w3 i ∨ D i) := by
    rintro ((h | h) | h)
    · exact n1 h
    · omega
    · have := hD i h; omega
  exact (o3.block i (by omega) n2).trans ((o2.block i (by omega) n1).trans ((hb.block i (by omega)).trans (o1.block i hi hx)))
theorem wth_join {A D : Nat → Prop} {W0 W1 w2 w3 w4 : World} {wb d : Nat} {X0 X : WS} (h0 : Wl A W0 wb d X0) (o1 : Out A W0 W1) (hb : Below W1.heap.size W1 w2) (o2 : Out (grew A W0 W1) w2 w3) (hD : ∀ i, D i → W1.heap.size ≤ i ∧ i < w2.heap.size) (h : Wth (fun i => grew (grew A W0 W1) w2 w3 i ∨ D i) w3 w4 wb d X) : Wth A W0 w4 wb d X := by
  have s1 := o1.size
  have s2 := hb.size
  have s3 := o2.size
  have s4 := h.out.size
  have oo : Out A W0 w4 := out_join o1 hb o2 (fun i hi => (hD i hi).1) h.out
  obtain ⟨S, L, b, sv, k, q⟩ := h.q
  refine ⟨⟨S, L, b, sv, k, q.wide ?_ (grew_inn h0.inn oo.size) (vr_step h0.vr oo)⟩, oo⟩
  rintro i ((((hi | hi) | hi) | hi) | hi)
  · exact .inl hi
  · exact .inr ⟨hi.1, by omega⟩
  · exact .inr ⟨by omega, by omega⟩
  · have := hD i hi; exact .inr ⟨by omega, by omega⟩
  · exact .inr ⟨by omega, hi.2⟩

set_option maxRecDepth 100000 in
set_option maxHeartbeats 4000000 in
theorem put_any {A : Nat → Prop} {w : World} {wb d : Nat} {X : WS} (h : Wl A w wb d X) (hn : X.sg ≠ []) (hfew : X.sg.length ≤ 100000000) (hl : X.last.n ≤ 99999999) (hb : X.last.b ≤ 100000000000) (B : Bt) (hes : ∀ W, Out A w W → EntsAt W.heap.size W B.a B.es) (hcp : B.es.length ≤ B.cp ∧ B.cp ≤ maxLen) (hd : ∀ e ∈ B.es, e.d.length ≤ 4096) (hlen : B.es.length ≤ 900)
    (hroll : X.RollOk) (hfit : FitAll X.rolled.J (X.rolled.recs B)) (hnum : ∀ r ∈ X.rolled.recs B, r.Num) (happ : X.rolled.recs B ≠ [] → (doAppend X.rolled.p (nmL X.rolled.last.n) (txsB (X.rolled.recs B))).1 = 0) :
    Calls Tryz.prog 81 #[.pointer (some ⟨wb, 0, none⟩), B.val] w fun e w' => e = .returned (.tuple #[]) ∧ Wth A w w' wb d (X.put B) := by
  have hok : X.J.Ok := by obtain ⟨S, L, b, sv, k, q⟩ := h; exact q.hj.ok
  obtain ⟨rn, rfew, rl, rb, rJ⟩ := rolled_facts hn hl hb hok hroll
  obtain ⟨W0, hW0⟩ : ∃ W0, w.alloc (.cells #[.bool B.has, .int .i64 B.t, .int .i64 B.v, .int .i64 B.c, .int .i64 B.i, .int .i64 B.tm, .slice B.a B.es.length B.cp] 39) = W0 := ⟨_, rfl⟩
  have HW : Hid (_ = W0) := hW0
  have hB0 : Below w.heap.size w W0 := by rw [← hW0]; exact (Below.refl _ w).alloc (Nat.le_refl _) _
  have hz0 : W0.heap.size = w.heap.size + 1 := by rw [← hW0]; simp
  have hR : W0.heap[w.heap.size]? = some (.cells #[.bool B.has, .int .i64 B.t, .int .i64 B.v, .int .i64 B.c, .int .i64 B.i, .int .i64 B.tm, .slice B.a B.es.length B.cp] 39 (0, 0)) := by rw [← hW0]; exact heap_alloc_new w _
  have h0 := h.below hB0
  have hna : ¬ A w.heap.size := fun ha => by have := h.inn _ ha; omega
  obtain ⟨n, hn'⟩ : ∃ n, X.sg.length = n + 1 := ⟨X.sg.length - 1, by have := List.length_pos_iff.2 hn; omega⟩
  have h0' := h0
  obtain ⟨S, L, b, sv, k, q0⟩ := h0'
  obtain ⟨g, cap, hsv, hg, hAg, -, s0, s1⟩ := q0.at_last hn'
  subst hsv
  obtain ⟨⟨c0, c1, c2, c3, c4⟩, -⟩ := cells5w q0.hw
  have HLS : Hid (Calls Tryz.prog 94 #[.pointer (some ⟨wb, 0, none⟩)] W0 fun e w' => e = .returned (.pointer (some ⟨g, n * 2, none⟩)) ∧ ∃ q, w' = W0.drewN q) := lastSeg_any W0 wb g n cap c2 (by omega)
  have HC0 : Hid (∀ q, (W0.drewN q).cell? ⟨g, n * 2 + 1, none⟩ = some (.int .i64 (X.last.b : Int)) ∧ (W0.drewN q).cell? ⟨g, n * 2, none⟩ = some (.int .i64 (X.last.n : Int)) ∧ (W0.drewN q).cell? ⟨wb, 1, none⟩ = some (.int .i64 (X.full : Int))) := fun _ => ⟨s1, s0, c1⟩
  have HRL : Hid (X.full ≤ X.last.b → ∀ W, Below W0.heap.size W0 W → Calls Tryz.prog 49 #[.pointer (some ⟨wb, 0, none⟩)] W fun e w' => e = .returned (.tuple #[]) ∧ w'.cell? ⟨g, n * 2, none⟩ = some (.int .i64 (X.last.n : Int)) ∧ Calls Tryz.prog 109 #[.pointer (some ⟨wb, 0, none⟩), .int .i64 ((X.last.n : Int) + 1)] w' fun e w2 => e = .returned (.tuple #[]) ∧ Hid (Wth A W0 w2 wb d X.rolled)) := fun hf W hB => by
    obtain ⟨r1, r2, r3, r4, r5⟩ := hroll hf
    have eR : X.rolled = (WS.begun { X with p := (doSync X.p (nmL X.last.n)).2 } (X.last.n + 1) (doCreate (doSync X.p (nmL X.last.n)).2 (nmL (X.last.n + 1))).2).headed
      (doSync (doAppend (doCreate (doSync X.p (nmL X.last.n)).2 (nmL (X.last.n + 1))).2 (nmL (X.last.n + 1)) (txsB [X.J.head (X.last.n + 1)])).2 (nmL (X.last.n + 1))).2 := by unfold WS.rolled; rw [if_pos hf]
    refine (syncO_any (q0.below hB) hn (by omega) hl _ (Prod.ext r1 rfl)).mono ?_
    rintro e w' ⟨rfl, hT, hO⟩
    have hs := (q0.sv g rfl).2.1
    refine ⟨rfl, ?_, ?_⟩
    · rw [← s0]
      have e1 := (hO.block g (Nat.lt_of_lt_of_le hg hB.size) hs).trans (hB.block g hg)
      simp only [World.cell?, e1]
    · rw [show ((X.last.n : Int) + 1) = ((X.last.n + 1 : Nat) : Int) by omega]
      refine (begin_any hT.q (X.last.n + 1) (by omega) r5 (by show X.sg.length < _; omega) _ _ _ (Prod.ext r2 rfl) (Prod.ext r3 rfl) (Prod.ext r4 rfl)).mono ?_
      rintro e w2 ⟨rfl, hT2⟩
      refine ⟨rfl, ?_⟩
      rw [eR]
      exact Wth.of_below h0 hB (hT.trans hT2)
  have HNR : Hid (¬ X.full ≤ X.last.b → ∀ q, Wth A W0 (W0.drewN q) wb d X.rolled) := fun hf q => by
    have e : X.rolled = X := by unfold WS.rolled; rw [if_neg hf]
    rw [e]
    exact h0.th (below_drewN (Below.refl _ _) q)
  have HTL : Hid (∀ W1, Wth A W0 W1 wb d X.rolled → W1.heap[w.heap.size]? = some (.cells #[.bool B.has, .int .i64 B.t, .int .i64 B.v, .int .i64 B.c, .int .i64 B.i, .int .i64 B.tm, .slice B.a B.es.length B.cp] 39 (0, 0)) ∧ EntsAt W1.heap.size W1 B.a B.es) := fun W1 hT =>
    ⟨(hT.out.block _ (by omega) hna).trans hR, hes W1 ((Out.of_below (X := A) hB0).trans hT.out (fun i hi _ => hi))⟩
  have hwn : IntKind.i64.wrap ((X.last.n : Int) + 1) = (X.last.n : Int) + 1 := by rw [IntKind.wrap_i64]; omega
  have HB0 : Hid (Below w.heap.size w W0) := hB0
  have HWL : Hid (Wl A w wb d X) := h
  obtain ⟨hcp1, hcp2⟩ := hcp
  have HCP : Hid (B.es.length ≤ B.cp ∧ B.cp ≤ maxLen) := ⟨hcp1, hcp2⟩
  have HX : Hid (FitAll X.rolled.J (X.rolled.recs B) ∧ (∀ r ∈ X.rolled.recs B, r.Num) ∧ (X.rolled.recs B ≠ [] → (doAppend X.rolled.p (nmL X.rolled.last.n) (txsB (X.rolled.recs B))).1 = 0) ∧ (∀ e ∈ B.es, e.d.length ≤ 4096)) := ⟨hfit, hnum, happ, hd⟩
  have HPU : Hid (X.put B = X.rolled.wrote (X.rolled.recs B)) := rfl
  have HRF : Hid (X.rolled.sg ≠ [] ∧ X.rolled.sg.length ≤ X.sg.length + 1 ∧ X.rolled.last.n ≤ 99999999 ∧ X.rolled.last.b ≤ 1000000000000 ∧ X.rolled.J = X.J) := ⟨rn, rfew, rl, rb, rJ⟩
  have hfull : decide ((X.last.b : Int) ≥ (X.full : Int)) = decide (X.full ≤ X.last.b) := by simp
  have HFB : Hid (∃ f, decide (X.full ≤ X.last.b) = f) := ⟨_, rfl⟩
  clear h hn hl hb hes hd hroll hfit hnum happ hok rn rfew rl rb rJ hW0 hB0 hz0 hR h0 hna hn' q0 hg hAg c0 c2 c3 c4 hcp1 hcp2 HC0
  generalize X.put B = XP at *
  generalize X.rolled = XR at *
  unfold Bt.val
  go_enter Tryz.func81, Tryz.ntmps81
  go_upto_region 1 with fail
  rw [HW.out]
  go_upto_region 2 with (go_at_call 94; refine HLS.out.mono ?_; rintro e w1 ⟨rfl, q, rfl⟩)
  go_cut [18] (fun v wx => v = .bool (decide (X.full ≤ X.last.b)) ∧ ∃ q, wx = W0.drewN q)
  case first =>
    go_quiet (fail)
    go_wp2_with fail
    go_meet
    exact ⟨by rw [← hfull], _, World.drewN_drewN _ _ _⟩
  case rest =>
    obtain ⟨hu, q2, hw⟩ := hcut
    subst hu
    rw [hw]
    clear hw
    go_upto_if 18 with fail
    go_cut [] (fun wx => Wth A W0 wx wb d XR)
    case first =>
      by_cases hf : X.full ≤ X.last.b
      · have HR1 := HRL.out hf (W0.drewN q2) (below_drewN (Below.refl _ _) q2)
        have hd : decide (X.full ≤ X.last.b) = true := by simpa using hf
        rw [hd]
        clear HRL HNR HTL HX HPU HRF
        go_wp2_with (first
          | (go_at_call 49; refine HR1.mono ?_; rintro e w3 ⟨rfl, k3, hbg⟩; have HBG : Hid _ := hbg; clear hbg)
          | (go_at_call 109; refine Calls.mono HBG.out ?_; rintro e w4 ⟨rfl, HT4⟩)
          | fail)
        go_meet
        exact HT4.out
      · have HT := HNR.out hf q2
        have hd : decide (X.full ≤ X.last.b) = false := by simpa using hf
        rw [hd]
        clear HRL HNR HTL HX HPU HRF
        go_wp2
        go_meet
        exact HT
    case rest =>
      have HT1 : Hid (Wth A W0 wc wb d XR) := hcut
      obtain ⟨hbx, hes1⟩ := HTL.out wc HT1.out
      generalize wc = W1 at *
      clear wc hcut HTL HRL HNR HLS s0 s1 c1 hwn hfull HFB
      have hB01 : W0.heap.size ≤ W1.heap.size := HT1.out.out.size
      obtain ⟨n9, hn9⟩ : ∃ n9, (XR.recs B).length = n9 := ⟨_, rfl⟩
      have HN9 : Hid ((XR.recs B).length = n9) := hn9
      have HRC : Hid (Calls Tryz.prog 118 #[.pointer (some ⟨wb, 0, none⟩), .agg #[.bool B.has, .int .i64 B.t, .int .i64 B.v, .int .i64 B.c, .int .i64 B.i, .int .i64 B.tm, .slice B.a B.es.length B.cp]] W1 fun e w' => ∃ va vc rs, e = .returned (.slice va n9 vc) ∧ Hid (rs.map Rd.key = (XR.recs B).map Rd.key) ∧ Hid (Ro RR W1.heap.size w' (.slice va n9 vc) rs) ∧ Hid (∀ r ∈ rs, Ow W1.heap.size w' r.e.x r.e.d) ∧ Hid (Below W1.heap.size W1 w')) := by
        obtain ⟨rn, rfew, rl, rb, rJ⟩ := HRF.out
        refine (records_any HT1.out.q rn (by omega) B hes1 HCP.out HX.out.2.2.2 (by omega)).mono ?_
        rintro e w' ⟨v, es', rfl, hs, hr, ho, hB⟩
        have hk := recs_key B XR.J XR.last.n hs
        have hk2 : (B.recs XR.J XR.last.n es').map Rd.key = (XR.recs B).map Rd.key := hk
        have hl := keys_at hk2
        rw [hn9] at hl
        obtain ⟨va, vc, rfl, -, -⟩ := hr.shape
        rw [hl] at hr ⊢
        refine ⟨va, vc, _, rfl, hk2, hr, fun r hr' => ?_, hB⟩
        unfold Bt.recs at hr'
        simp only [List.mem_append, List.mem_map] at hr'
        rcases hr' with ((h9 | h9) | ⟨x, hx, rfl⟩) | h9
        · unfold Bt.r1 at h9
          split at h9
          · obtain rfl := List.mem_singleton.1 h9; exact Ow.nil _ _
          · simp at h9
        · unfold Bt.r2 at h9
          split at h9
          · obtain rfl := List.mem_singleton.1 h9; exact Ow.nil _ _
          · simp at h9
        · exact ho x hx
        · unfold Bt.r4 at h9
          split at h9
          · obtain rfl := List.mem_singleton.1 h9; exact Ow.nil _ _
          · simp at h9
      have h118 : n9 ≤ 903 := by
        rw [← hn9]
        unfold WS.recs Bt.recs Bt.r1 Bt.r2 Bt.r4
        simp only [List.length_append, List.length_map]
        repeat' split
        all_goals simp
        all_goals omega
      clear hn9 hes1 HCP
      obtain ⟨⟨b0, b1, b2, b3, b4, b5, b6⟩, -⟩ := cells7 hbx
      clear hbx
      by_cases hz : n9 = 0
      · have HE0 : Hid (XP = XR) := by
          show _ = _
          rw [HPU.out]
          unfold WS.wrote
          rw [if_pos (List.length_eq_zero_iff.1 (HN9.out.trans hz))]
        have HFN : Hid (∀ W, Below W1.heap.size W1 W → Wth A w W wb d XP) := fun W hB => by
          rw [HE0.out]
          exact Wth.of_below HWL.out HB0.out (HT1.out.trans (HT1.out.q.th hB))
        clear HX HPU HRF HT1 HB0 HWL HE0
        go_wp2_with (go_at_call 118; refine HRC.out.mono ?_; rintro e w2 ⟨va, vc, rs, rfl, HK, HR, HO, HB2⟩)
        refine bodyPost_ret (results_none rfl _ _ _) rfl ?_
        exact ⟨rfl, HFN.out _ HB2.out⟩
      · have hp' : ∃ p', p' = (doAppend XR.p (nmL XR.last.n) (txsB (XR.recs B))).2 := ⟨_, rfl⟩
        obtain ⟨p', hp'⟩ := hp'
        have HAP : Hid (∀ w2 va vc rs, Below W1.heap.size W1 w2 → rs.map Rd.key = (XR.recs B).map Rd.key → Ro RR W1.heap.size w2 (.slice va n9 vc) rs → (∀ r ∈ rs, Ow W1.heap.size w2 r.e.x r.e.d) → Calls Tryz.prog 119 #[.pointer (some ⟨wb, 0, none⟩), .slice va n9 vc] w2 fun e w' => e = .returned (.tuple #[]) ∧ Hid (Wth (grew A W0 W1) w2 w' wb d (WS.grow { XR with p := p' } (txsB (XR.recs B)).length))) := fun w2 va vc rs hB hk hr ho => by
          obtain ⟨rn, rfew, rl, rb, rJ⟩ := HRF.out
          have hl : rs.length = n9 := (keys_at hk).trans HN9.out
          obtain ⟨va', vc', he, hc1, hc2, hat⟩ := hr.rds
          rw [hl] at he
          cases he
          rw [← hl]
          refine (appendW_any (HT1.out.q.below hB) rn (by omega) rl rb rs va vc hat ⟨hc1, hc2⟩ (keys_num hk HX.out.2.1) (fun r hr' => (ho r hr').sl (Nat.le_refl _)) (by omega) p' ?_).mono ?_
          · rw [keys_txs hk, hp']
            exact Prod.ext (HX.out.2.2.1 (fun e => hz (by rw [← HN9.out, e]; rfl))) rfl
          · rintro e w' ⟨rfl, hT⟩
            rw [keys_txs hk] at hT
            exact ⟨rfl, hT⟩
        have HEX : Hid (XP = { (WS.grow { XR with p := p' } (txsB (XR.recs B)).length) with J := XR.J.run (XR.recs B) }) := by
          show _ = _
          rw [HPU.out]
          unfold WS.wrote
          rw [if_neg (fun e => hz (by rw [← HN9.out, e]; rfl)), ← hp']
        have HFA : Hid (FitAll XR.J (XR.recs B)) := HX.out.1
        clear HPU HRF HX hp'
        go_wp2_with (first
          | (go_at_call 118; refine HRC.out.mono ?_; rintro e w2 ⟨va, vc, rs, rfl, HK, HR, HO, HB2⟩)
          | (go_at_call 119; refine (HAP.out w2 va vc rs HB2.out HK.out HR.out HO.out).mono ?_; rintro e w3 ⟨rfl, HT3⟩)
          | fail)
        have hls : rs.length = n9 := (keys_at HK.out).trans HN9.out
        obtain ⟨S2, L2, b2', sv2, k2, q2⟩ := HT3.out.q
        obtain ⟨D, hDef⟩ : ∃ D : Nat → Prop, (fun i => ∃ r ∈ rs, r.e.x.ownBlock = some i) = D := ⟨_, rfl⟩
        have hD : ∀ i, D i → W1.heap.size ≤ i ∧ i < w2.heap.size := fun i hi => by
          rw [← hDef] at hi
          obtain ⟨r, hr, hg⟩ := hi
          exact (HO.out r hr).lt hg
        have hA1 : ∀ i, grew A W0 W1 i → i < W1.heap.size := HT1.out.q.inn
        have hDA : ∀ i, D i → ¬ grew (grew A W0 W1) w2 w3 i := fun i hi => by
          have := hD i hi
          rintro (h2 | h2)
          · have := hA1 i h2; omega
          · omega
        have hO3 := HT3.out.out
        have s23 := hO3.size
        have HO3 : Hid (∀ r ∈ rs, Ow 0 w3 r.e.x r.e.d) := fun r hr => ((HO.out r hr).out hO3 (fun g hg hA => by have := ((HO.out r hr).lt hg).1; have := hA1 g hA; omega)).base (Nat.zero_le _)
        have HDN : Hid (∀ r ∈ rs, ∀ g, r.e.x.ownBlock = some g → D g) := fun r hr g hg => by rw [← hDef]; exact ⟨r, hr, hg⟩
        have hrb : ∀ g, (Value.slice va n9 vc).ownBlock = some g → ¬ (L2 g ∨ D g) := fun g hg => by
          have hlt := HR.out.lt hg
          rintro (h2 | h2)
          · rcases q2.LA g h2 with h3 | h3
            · have := hA1 g h3; omega
            · omega
          · rw [← hDef] at h2
            obtain ⟨r, hr, hg2⟩ := h2
            obtain ⟨cur, hcur⟩ := HR.out.obj hg
            exact (HO.out r hr).not_at' hcur (fun c z e => by cases e) hg2
        have HLP : Hid (∀ W, Out (fun i => L2 i ∨ D i) w3 W → RdsAt W va rs ∧ W.cell? ⟨wb, 3, none⟩ = some (.pointer (some ⟨b2', 0, none⟩))) := fun W hO => by
          obtain ⟨va', vc', he, -, -, hat⟩ := HR.out.rds
          rw [hls] at he
          cases he
          refine ⟨hat.same (fun g off hv => ?_), ?_⟩
          · have hg : (Value.slice va n9 vc).ownBlock = some g := by rw [hv]; rfl
            have hlt := HR.out.lt hg
            exact (hO.block g (by omega) (hrb g hg)).trans (hO3.block g (by omega) (fun hA => by have := hA1 g hA; omega))
          · have hw := (hO.block wb (Array.getElem?_eq_some_iff.1 q2.hw).1 (fun hx => hx.elim q2.nL (fun hd => hDA wb hd q2.Aw))).trans q2.hw
            exact (cells5w hw).1.2.2.2.1
        have hj0 : Lj (fun i => L2 i ∨ D i) w3 b2' XR.J := q2.hj.wide (fun i hi => .inl hi) (fun i hi => hi.elim (fun h2 => q2.hj.inn i h2) (fun h2 => by have := hD i h2; omega))
        have HTK : Hid (∀ (k : Nat) (hk : k < rs.length) (W : World), JTh (fun i => L2 i ∨ D i) w3 W b2' (XR.J.run (rs.take k)) → ∀ W', Below W.heap.size W W' → Calls Tryz.prog 120 #[.pointer (some ⟨b2', 0, none⟩), (rs[k]).val] W' fun e w' => e = .returned (.bool true) ∧ Hid (JTh (fun i => L2 i ∨ D i) w3 w' b2' (XR.J.run (rs.take (k + 1))))) := fun k hk W hJ W' hB => by
          have hmem : rs[k] ∈ rs := List.getElem_mem hk
          obtain ⟨f1, f2⟩ := (keys_fit HK.out HFA.out).at hk
          have hx : Ow 0 W' (rs[k]).e.x (rs[k]).e.d := (hJ.ow (HO3.out _ hmem)).below hB (Nat.le_refl _)
          refine (take_any (hJ.q.below hB) rs[k] f1 hx (fun g hg => .inl (.inr (HDN.out _ hmem g hg))) f2).mono ?_
          rintro e w' ⟨rfl, hJ2⟩
          refine ⟨rfl, ?_⟩
          rw [run_snoc XR.J rs hk]
          exact hJ.trans (JTh.of_below hJ.q hB (fun _ => hJ2))
        have HFN : Hid (∀ W, JTh (fun i => L2 i ∨ D i) w3 W b2' (XR.J.run rs) → Wth A w W wb d XP) := fun W hJ => by
          have h0 := HWL.out.below HB0.out
          have hL := q2.ledger (D := D) (fun i hi => hDA i hi) (fun i hi => by have := hD i hi; omega) (fun V hV => h0.vr V (out_join HT1.out.out HB2.out hO3 (fun i hi => (hD i hi).1) hV)) hJ
          have hW := wth_join h0 HT1.out.out HB2.out hO3 hD hL
          rw [HEX.out, ← keys_run HK.out]
          exact Wth.of_below HWL.out HB0.out hW
        have HJ0 : Hid (JTh (fun i => L2 i ∨ D i) w3 w3 b2' (XR.J.run (rs.take 0))) := hj0.th (Below.refl _ _)
        clear HT1 HT3 HK HR HO HB2 HAP HRC HFA HEX HO3 HDN hDef hD hA1 hDA hO3 s23 hrb hj0 q2 b0 b1 b2 b3 b4 b5 b6 HN9 HB0 HWL
        have hn903 : n9 ≤ 903 := h118
        go_wp2_with fail
        go_loopw [39] (fun v39 wr => ∃ k : Nat, v39 = .int .i64 (k : Int) ∧ k ≤ n9 ∧ Hid (JTh (fun i => L2 i ∨ D i) w3 wr b2' (XR.J.run (rs.take k)))) (fun i _ => n9 - (intOf i).toNat)
        case atStart => exact ⟨0, rfl, Nat.zero_le _, HJ0.out⟩
        case round =>
          obtain ⟨k, rfl, hk, HJ⟩ := hrel
          by_cases hlt : k < n9
          · have hlr : k < rs.length := by omega
            have HT1 := HTK.out k hlr wr HJ.out
            obtain ⟨hrd, hwc⟩ := HLP.out wr HJ.out.out
            have HWC : Hid (∀ W, Below wr.heap.size wr W → W.cell? ⟨wb, 3, none⟩ = some (.pointer (some ⟨b2', 0, none⟩))) := fun W hB => (hB.cell (p := ⟨wb, 3, none⟩) (World.block_lt_of_cell? _ _ hwc)).trans hwc
            rcases hrd with h0 | ⟨br, off, hra, hbr, hcells⟩
            · rw [h0] at hlr; simp at hlr
            have hk0 := hcells k hlr 0 (by decide)
            have hk1 := hcells k hlr 1 (by decide)
            have hk2 := hcells k hlr 2 (by decide)
            have hk3 := hcells k hlr 3 (by decide)
            have hk4 := hcells k hlr 4 (by decide)
            have hk5 := hcells k hlr 5 (by decide)
            have hk6 := hcells k hlr 6 (by decide)
            have hk7 := hcells k hlr 7 (by decide)
            have hk8 := hcells k hlr 8 (by decide)
            have hk9 := hcells k hlr 9 (by decide)
            have hk10 := hcells k hlr 10 (by decide)
            simp only [Rd.cells, List.getElem?_cons_zero, List.getElem?_cons_succ, Nat.add_zero] at hk0 hk1 hk2 hk3 hk4 hk5 hk6 hk7 hk8 hk9 hk10
            subst hra
            obtain ⟨PK, hPK⟩ : ∃ PK, XR.J.run (rs.take (k + 1)) = PK := ⟨_, rfl⟩
            have HPK : Hid (XR.J.run (rs.take (k + 1)) = PK) := hPK
            rw [hPK] at HT1
            obtain ⟨r, hr⟩ : ∃ r, rs[k] = r := ⟨_, rfl⟩
            rw [hr] at HT1 hk0 hk1 hk2 hk3 hk4 hk5 hk6 hk7 hk8 hk9 hk10
            have HT2 : Hid (∀ W', Below wr.heap.size wr W' → Calls Tryz.prog 120 #[.pointer (some ⟨b2', 0, none⟩), .agg #[.int .i64 (r.k : Int), .int .i64 (r.sg : Int), .int .i64 r.t, .int .i64 r.v, .int .i64 r.c, .int .i64 r.i, .int .i64 r.tm, .int .i64 r.e.t, .int .i64 r.e.i, .int .i64 r.e.k, .slice r.e.a r.e.d.length r.e.c]] W' fun e w' => e = .returned (.bool true) ∧ Hid (JTh (fun i => L2 i ∨ D i) w3 w' b2' PK)) := HT1
            clear HT1 HTK HLP HFN HJ0 hcells hbr hr hPK hwc
            unfold Ent.x at hk10
            go_upto_region 10 with fail
            go_cut [7] (fun v7 wx => v7 = .pointer (some ⟨wr.heap.size, 0, none⟩) ∧ Hid (wx.heap[wr.heap.size]? = some (.cells #[.int .i64 (r.k : Int), .int .i64 (r.sg : Int), .int .i64 r.t, .int .i64 r.v, .int .i64 r.c, .int .i64 r.i, .int .i64 r.tm, .int .i64 r.e.t, .int .i64 r.e.i, .int .i64 r.e.k, .slice r.e.a r.e.d.length r.e.c] 177 (0, 0))) ∧ Hid (Below wr.heap.size wr wx))
            case first =>
              as_aux_lemma =>
                clear HT2 HPK HJ HWC
                go_wp2
                go_meet
                exact ⟨rfl, heap_alloc_new wr _, bel_alloc' (Below.refl _ _) _⟩
            case rest =>
              obtain ⟨hu7, HR7, HBc⟩ := hcut
              subst hu7
              obtain ⟨⟨q0, q1, q2, q3, q4, q5, q6, q7, q8, q9, q10⟩, -⟩ := cells11 HR7.out
              have hwc := HWC.out wc HBc.out
              have HT3 : Hid (Calls Tryz.prog 120 #[.pointer (some ⟨b2', 0, none⟩), .agg #[.int .i64 (r.k : Int), .int .i64 (r.sg : Int), .int .i64 r.t, .int .i64 r.v, .int .i64 r.c, .int .i64 r.i, .int .i64 r.tm, .int .i64 r.e.t, .int .i64 r.e.i, .int .i64 r.e.k, .slice r.e.a r.e.d.length r.e.c]] wc.drew fun e w' => e = .returned (.bool true) ∧ Hid (JTh (fun i => L2 i ∨ D i) w3 w' b2' PK)) := HT2.out wc.drew (bel_drew' HBc.out)
              clear HT2 HWC HR7 HBc HJ hk0 hk1 hk2 hk3 hk4 hk5 hk6 hk7 hk8 hk9 hk10
              generalize (r.k : Int) = rk at *
              generalize (r.sg : Int) = rsg at *
              generalize r.e.d.length = rl at *
              go_upto_region 11 with fail
              go_region_law (go_simp; go_at_call 120; refine HT3.out.mono ?_; rintro e w9 ⟨rfl, HJ9⟩)
              all_goals
                (try go_wp2)
                exact ⟨⟨k + 1, by go_num, by omega, (by show JTh _ _ _ _ _; rw [HPK.out]; exact HJ9.out)⟩, by simp [intOf]; omega⟩
          · have hke : rs.take k = rs := List.take_of_length_le (by omega)
            have HF2 : Hid (Wth A w wr wb d XP) := HFN.out wr (by have := HJ.out; rw [hke] at this; exact this)
            clear HTK HLP HFN HJ0 HJ
            go_wp2
            go_end0
            exact ⟨rfl, HF2.out⟩
end Go.Proofs.YtnahghldlkjleaaGreatDoor
