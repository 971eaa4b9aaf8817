/-
  Lanes in memory; what NewLanes, has, Put, Take do.
-/
import Derived.Test.YthaoobfldponpaaQu
namespace Go.Proofs.Ythaoobfldponpaa
open Go.RowKit
set_option linter.unusedVariables false

/-- One lane turned. -/
def upd {α : Type} (ls : Nat → α) (i : Nat) (l : α) : Nat → α := fun j => if j = i then l else ls j
theorem upd_at {α : Type} (ls : Nat → α) (i : Nat) (l : α) : upd ls i l i = l := if_pos rfl
theorem upd_ne {α : Type} (ls : Nat → α) (i : Nat) (l : α) {j : Nat} (h : j ≠ i) : upd ls i l j = ls j := if_neg h
theorem upd_same {α : Type} (ls : Nat → α) (i : Nat) : upd ls i (ls i) = ls := funext fun j => by
  unfold upd
  split
  · rename_i e; rw [e]
  · rfl

/-! ### lanes of Int -/
/-- Block d holds lanes: the row of pointers in c, the queues in bs, their blocks in F. -/
structure LX (N : Nat) (S : Nat → Prop) (w : World) (d c : Nat) (bs : Nat → Nat) (F : Nat → Nat → Prop) (n room nx : Nat) (ls : Nat → List Int) : Prop where
  hd : w.heap[d]? = some (.cells #[.slice (some ⟨c, 0, none⟩) n n, .int .i64 (nx : Int)] 63 (0, 0))
  hc : ∃ cs, w.heap[c]? = some (.cells cs 24 (0, 0)) ∧ ∀ i, i < n → cs[i]? = some (.pointer (some ⟨bs i, 0, none⟩))
  qs : ∀ i, i < n → Qu N (F i) w (bs i) room (ls i)
  sub : ∀ i, i < n → ∀ g, F i g → S g ∧ g ≠ d ∧ g ≠ c
  ap : ∀ i j, i < n → j < n → i ≠ j → ∀ g, F i g → ¬ F j g
  Sd : S d
  Sc : S c
  n1 : 1 ≤ n
  n64 : n ≤ 64
  nx : nx ≤ n
  inn : ∀ i, S i → i < w.heap.size
  fr : ∀ i, S i → N ≤ i
/-- Block d holds lanes. -/
def La (N : Nat) (S : Nat → Prop) (w : World) (d n room nx : Nat) (ls : Nat → List Int) : Prop := ∃ c bs F, LX N S w d c bs F n room nx ls
structure LTh (N : Nat) (S : Nat → Prop) (w w' : World) (d n room nx : Nat) (ls : Nat → List Int) : Prop where
  q : La N (grew S w w') w' d n room nx ls
  out : Out S w w'

theorem LX.ne {N : Nat} {S : Nat → Prop} {w : World} {d c : Nat} {bs : Nat → Nat} {F : Nat → Nat → Prop} {n room nx : Nat} {ls : Nat → List Int} (h : LX N S w d c bs F n room nx ls) : d ≠ c := fun e => by
  obtain ⟨cs, hc, -⟩ := h.hc
  rw [← e, h.hd] at hc
  simp at hc


theorem LX.cells {N : Nat} {S : Nat → Prop} {w : World} {d c : Nat} {bs : Nat → Nat} {F : Nat → Nat → Prop} {n room nx : Nat} {ls : Nat → List Int} (h : LX N S w d c bs F n room nx ls) :
    (w.cell? ⟨d, 0, none⟩ = some (.slice (some ⟨c, 0, none⟩) n n) ∧ w.cell? ⟨d, 1, none⟩ = some (.int .i64 (nx : Int)) ∧ w.frozen? ⟨d, 1, none⟩ = false) ∧ ∀ i, i < n → w.cell? ⟨c, i, none⟩ = some (.pointer (some ⟨bs i, 0, none⟩)) := by
  have hd := h.hd
  obtain ⟨cs, hc, hp⟩ := h.hc
  refine ⟨⟨?_, ?_, ?_⟩, fun i hi => ?_⟩
  · simp [World.cell?, hd]
  · simp [World.cell?, hd]
  · simp [World.frozen?, hd]
  · simp only [World.cell?, hc]
    exact hp i hi

theorem LX.out {N : Nat} {S X : Nat → Prop} {w w' : World} {d c : Nat} {bs : Nat → Nat} {F : Nat → Nat → Prop} {n room nx : Nat} {ls : Nat → List Int} (h : LX N S w d c bs F n room nx ls) (hO : Out X w w') (hx : ∀ i, S i → ¬ X i) : LX N S w' d c bs F n room nx ls := by
  obtain ⟨cs, hc, hp⟩ := h.hc
  exact ⟨(hO.block d (h.inn _ h.Sd) (hx _ h.Sd)).trans h.hd, ⟨cs, (hO.block c (h.inn _ h.Sc) (hx _ h.Sc)).trans hc, hp⟩, fun i hi => (h.qs i hi).out hO (fun g hg => hx g (h.sub i hi g hg).1), h.sub, h.ap, h.Sd, h.Sc, h.n1, h.n64, h.nx, fun i hi => Nat.lt_of_lt_of_le (h.inn i hi) hO.size, h.fr⟩
theorem LX.mono {N : Nat} {S S' : Nat → Prop} {w : World} {d c : Nat} {bs : Nat → Nat} {F : Nat → Nat → Prop} {n room nx : Nat} {ls : Nat → List Int} (h : LX N S w d c bs F n room nx ls) (hS : ∀ i, S i → S' i) (hi : ∀ i, S' i → i < w.heap.size) (hf : ∀ i, S' i → N ≤ i) : LX N S' w d c bs F n room nx ls :=
  ⟨h.hd, h.hc, h.qs, fun i hi g hg => ⟨hS _ (h.sub i hi g hg).1, (h.sub i hi g hg).2⟩, h.ap, hS _ h.Sd, hS _ h.Sc, h.n1, h.n64, h.nx, hi, hf⟩
theorem La.out {N : Nat} {S X : Nat → Prop} {w w' : World} {d n room nx : Nat} {ls : Nat → List Int} (h : La N S w d n room nx ls) (hO : Out X w w') (hx : ∀ i, S i → ¬ X i) : La N S w' d n room nx ls := by
  obtain ⟨c, bs, F, h⟩ := h
  exact ⟨c, bs, F, h.out hO hx⟩
theorem La.below {N : Nat} {S : Nat → Prop} {w w' : World} {d n room nx : Nat} {ls : Nat → List Int} (h : La N S w d n room nx ls) (hB : Below w.heap.size w w') : La N S w' d n room nx ls :=
  h.out (X := fun _ => False) (Out.of_below hB) (fun _ _ hf => hf)
theorem La.fr {N : Nat} {S : Nat → Prop} {w : World} {d n room nx : Nat} {ls : Nat → List Int} (h : La N S w d n room nx ls) : ∀ i, S i → N ≤ i := by
  obtain ⟨c, bs, F, h⟩ := h
  exact h.fr
theorem La.inn {N : Nat} {S : Nat → Prop} {w : World} {d n room nx : Nat} {ls : Nat → List Int} (h : La N S w d n room nx ls) : ∀ i, S i → i < w.heap.size := by
  obtain ⟨c, bs, F, h⟩ := h
  exact h.inn
theorem LTh.bel {N : Nat} {S : Nat → Prop} {w w' : World} {d n room nx : Nat} {ls : Nat → List Int} (h : LTh N S w w' d n room nx ls) (hN : N ≤ w.heap.size) : Below N w w' :=
  h.out.below hN (fun i hi => h.q.fr i (.inl hi))
theorem LX.same {N : Nat} {S : Nat → Prop} {w : World} {d c : Nat} {bs : Nat → Nat} {F : Nat → Nat → Prop} {n room nx : Nat} {ls : Nat → List Int} (h : LX N S w d c bs F n room nx ls) : LTh N S w w d n room nx ls :=
  ⟨⟨c, bs, F, h.mono (fun _ hi => .inl hi) (fun i hi => h.inn i (grew_refl hi)) (fun i hi => h.fr i (grew_refl hi))⟩, Out.refl _ _⟩

/-- A call of one of its queues. -/
theorem LX.step {N : Nat} {S : Nat → Prop} {w w' : World} {d c : Nat} {bs : Nat → Nat} {F : Nat → Nat → Prop} {n room nx i : Nat} {ls : Nat → List Int} {l' : List Int} (h : LX N S w d c bs F n room nx ls) (hN : N ≤ w.heap.size) (hi : i < n) (ht : Th N (F i) w w' (bs i) room l') :
    LX N (grew S w w') w' d c bs (upd F i (grew (F i) w w')) n room nx (upd ls i l') ∧ Out S w w' := by
  have hO : Out S w w' := ht.out.mono (fun g hg => (h.sub i hi g hg).1)
  have hsz := hO.size
  obtain ⟨cs, hc, hp⟩ := h.hc
  have hsubi : ∀ g, grew (F i) w w' g → grew S w w' g ∧ g ≠ d ∧ g ≠ c := by
    rintro g (hg | hg)
    · exact ⟨.inl (h.sub i hi g hg).1, (h.sub i hi g hg).2⟩
    · refine ⟨.inr hg, ?_, ?_⟩
      · have := h.inn _ h.Sd; omega
      · have := h.inn _ h.Sc; omega
  refine ⟨⟨(ht.out.block d (h.inn _ h.Sd) (fun hx => (h.sub i hi d hx).2.1 rfl)).trans h.hd, ⟨cs, (ht.out.block c (h.inn _ h.Sc) (fun hx => (h.sub i hi c hx).2.2 rfl)).trans hc, hp⟩, ?_, ?_, ?_, .inl h.Sd, .inl h.Sc, h.n1, h.n64, h.nx, ?_, ?_⟩, hO⟩
  · intro j hj
    by_cases e : j = i
    · subst e
      rw [upd_at, upd_at]
      exact ht.q
    · rw [upd_ne _ _ _ e, upd_ne _ _ _ e]
      exact (h.qs j hj).out ht.out (fun g hg hx => h.ap j i hj hi e g hg hx)
  · intro j hj g hg
    by_cases e : j = i
    · subst e
      rw [upd_at] at hg
      exact hsubi g hg
    · rw [upd_ne _ _ _ e] at hg
      exact ⟨.inl (h.sub j hj g hg).1, (h.sub j hj g hg).2⟩
  · have key : ∀ j, j < n → j ≠ i → ∀ g, grew (F i) w w' g → ¬ F j g := fun j hj e g hg hx => by
      rcases hg with hg | hg
      · exact h.ap i j hi hj (fun e' => e e'.symm) g hg hx
      · have := h.inn _ (h.sub j hj g hx).1; omega
    intro j k hj hk hne g hg hx
    by_cases e : j = i
    · subst e
      rw [upd_at] at hg
      rw [upd_ne _ _ _ (fun e' => hne e'.symm)] at hx
      exact key k hk (fun e' => hne e'.symm) g hg hx
    · rw [upd_ne _ _ _ e] at hg
      by_cases e2 : k = i
      · subst e2
        rw [upd_at] at hx
        exact key j hj e g hx hg
      · rw [upd_ne _ _ _ e2] at hx
        exact h.ap j k hj hk hne g hg hx
  · rintro g (hg | hg)
    · exact Nat.lt_of_lt_of_le (h.inn g hg) hsz
    · exact hg.2
  · rintro g (hg | hg)
    · exact h.fr g hg
    · omega
/-- Where Take looks first. -/
theorem LX.next {N : Nat} {S : Nat → Prop} {w : World} {d c : Nat} {bs : Nat → Nat} {F : Nat → Nat → Prop} {n room nx : Nat} {ls : Nat → List Int} (h : LX N S w d c bs F n room nx ls) (m : Nat) (hm : m ≤ n) : LX N S (w.setCell ⟨d, 1, none⟩ (.int .i64 (m : Int))) d c bs F n room m ls := by
  obtain ⟨cs, hc, hp⟩ := h.hc
  have hO : Out (fun i => i = d) w (w.setCell ⟨d, 1, none⟩ (.int .i64 (m : Int))) := Out.set rfl
  exact ⟨by simpa using heap_set h.hd 1 (.int .i64 (m : Int)), ⟨cs, (hO.block c (h.inn _ h.Sc) (fun e => h.ne e.symm)).trans hc, hp⟩, fun i hi => (h.qs i hi).out hO (fun g hg => (h.sub i hi g hg).2.1), h.sub, h.ap, h.Sd, h.Sc, h.n1, h.n64, hm, fun i hi => by rw [size_set]; exact h.inn i hi, h.fr⟩

theorem grew_grew {S : Nat → Prop} {w wr w2 : World} (h1 : w.heap.size ≤ wr.heap.size) (h2 : wr.heap.size ≤ w2.heap.size) : grew (grew S w wr) wr w2 = grew S w w2 := funext fun i => propext ⟨by
    rintro ((hi | hi) | hi)
    · exact .inl hi
    · exact .inr ⟨hi.1, by omega⟩
    · exact .inr ⟨by omega, hi.2⟩, by
    rintro (hi | hi)
    · exact .inl (.inl hi)
    · by_cases hc : i < wr.heap.size
      · exact .inl (.inr ⟨hi.1, hc⟩)
      · exact .inr ⟨by omega, hi.2⟩⟩

theorem has_any {N : Nat} {S : Nat → Prop} {w : World} {d n room nx : Nat} {ls : Nat → List Int} (h : La N S w d n room nx ls) (k : Int) :
    Calls Try.prog 38 #[.pointer (some ⟨d, 0, none⟩), .int .i64 k] w fun e w' => e = .returned (.bool (decide (0 ≤ k) && decide (k < (n : Int)))) ∧ w' = w := by
  obtain ⟨c, bs, F, h⟩ := h
  obtain ⟨⟨c0, -⟩, -⟩ := h.cells
  clear h
  by_cases h1 : 0 ≤ k
  · go_enter Try.func38, Try.ntmps38
    go_wp2
    go_ret
    exact ⟨by simp [h1], rfl⟩
  · have h1' : decide (0 ≤ k) = false := by simpa using h1
    clear h1
    go_enter Try.func38, Try.ntmps38
    go_wp2
    go_ret
    exact ⟨by simp [h1'], rfl⟩

set_option maxRecDepth 100000 in
theorem lput_any {N : Nat} {S : Nat → Prop} {w : World} {d n room nx : Nat} {ls : Nat → List Int} (h : La N S w d n room nx ls) (hN : N ≤ w.heap.size) (i : Nat) (hi : i < n) (x : Int) :
    Calls Try.prog 21 #[.pointer (some ⟨d, 0, none⟩), .int .i64 (i : Int), Value.int .i64 x] w fun e w' => e = .returned (.bool (decide ((ls i).length < room))) ∧ LTh N S w w' d n room nx (upd ls i (putL room (ls i) x)) := by
  have HH := has_any h (i : Int)
  have e0 : (decide (0 ≤ (i : Int)) && decide ((i : Int) < (n : Int))) = true := by simp; omega
  rw [e0] at HH
  obtain ⟨c, bs, F, h⟩ := h
  obtain ⟨⟨c0, -, -⟩, cp⟩ := h.cells
  have ci := cp i hi
  have HP := put_any (h.qs i hi) hN x
  have HS : Hid (∀ w' l', Th N (F i) w w' (bs i) room l' → LTh N S w w' d n room nx (upd ls i l')) := fun w' l' ht => by
    obtain ⟨h1, h2⟩ := h.step hN hi ht
    exact ⟨⟨_, _, _, h1⟩, h2⟩
  have hni : (i : Int) < (n : Int) := by omega
  clear h cp e0
  go_enter Try.func21, Try.ntmps21
  go_wp2_with (first
    | (go_at_call 38; refine HH.mono ?_; rintro e w1 ⟨rfl, hw1⟩; subst w1)
    | (go_at_call 25; refine HP.mono ?_; rintro e w2 ⟨rfl, ht⟩; have HT : Hid _ := ht; clear ht))
  go_ret
  exact ⟨rfl, HS.out _ _ HT.out⟩

theorem lput_none {N : Nat} {S : Nat → Prop} {w : World} {d n room nx : Nat} {ls : Nat → List Int} (h : La N S w d n room nx ls) (k : Int) (hk : ¬ (0 ≤ k ∧ k < (n : Int))) (x : Int) :
    Calls Try.prog 21 #[.pointer (some ⟨d, 0, none⟩), .int .i64 k, Value.int .i64 x] w fun e w' => e = .returned (.bool false) ∧ w' = w := by
  have HH := has_any h k
  have e0 : (decide (0 ≤ k) && decide (k < (n : Int))) = false := by simp; omega
  rw [e0] at HH
  clear h hk e0
  go_enter Try.func21, Try.ntmps21
  go_wp2_with (go_at_call 38; refine HH.mono ?_; rintro e w1 ⟨rfl, hw1⟩; subst w1)
  go_ret
  exact ⟨rfl, rfl⟩

/-- Lanes behind some calls. -/
theorem LTh.trans {N : Nat} {S : Nat → Prop} {w wr w2 : World} {d n room nx n2 : Nat} {ls l2 : Nat → List Int} (h : LTh N S w wr d n room nx ls) (k : LTh N (grew S w wr) wr w2 d n room n2 l2) : LTh N S w w2 d n room n2 l2 :=
  ⟨by rw [← grew_grew h.out.size k.out.size]; exact k.q, h.out.step k.out⟩

set_option maxRecDepth 100000 in
set_option maxHeartbeats 2000000 in
/-- Take, where the m-th lane from next on is the first that isn't empty. -/
theorem ltake_any {N : Nat} {S : Nat → Prop} {w : World} {d n room nx : Nat} {ls : Nat → List Int} (h : La N S w d n room nx ls) (hN : N ≤ w.heap.size) (m : Nat) (hm : m < n) (hz : ∀ k, k < m → ls ((nx + k) % n) = []) (x : Int) (t : List Int) (hx : ls ((nx + m) % n) = x :: t) :
    Calls Try.prog 22 #[.pointer (some ⟨d, 0, none⟩)] w fun e w' => e = .returned (.tuple #[.int .i64 (((nx + m) % n : Nat) : Int), Value.int .i64 x, .bool true]) ∧ LTh N S w w' d n room ((nx + m) % n + 1) (upd ls ((nx + m) % n) t) := by
  obtain ⟨hn1, hn64, hnx⟩ : 1 ≤ n ∧ n ≤ 64 ∧ nx ≤ n := by obtain ⟨c, bs, F, h⟩ := h; exact ⟨h.n1, h.n64, h.nx⟩
  have HW : Hid (LTh N S w w d n room nx ls) := by obtain ⟨c, bs, F, h⟩ := h; exact h.same
  have HZ : Hid (∀ k, k < m → ls ((nx + k) % n) = []) := hz
  have HX : Hid (ls ((nx + m) % n) = x :: t) := hx
  have HN : Hid (N ≤ w.heap.size) := hN
  have c0 : w.cell? ⟨d, 0, none⟩ = some (.slice (some ⟨h.choose, 0, none⟩) n n) := by
    obtain ⟨bs, F, h'⟩ := h.choose_spec
    exact h'.cells.1.1
  generalize h.choose = c at c0
  obtain ⟨M, HM⟩ : ∃ M, Hid ((nx + m) % n = M) := ⟨_, rfl⟩
  rw [HM.out] at HX ⊢
  have hmn : M < n := by rw [← HM.out]; exact Nat.mod_lt _ (by omega)
  clear h hz hx hN
  go_enter Try.func22, Try.ntmps22
  go_wp2
  go_loopw [3, 11] (fun xv kv wr => ∃ k : Nat, kv = .int .i64 (k : Int) ∧ k ≤ m ∧ xv = Value.int .i64 0 ∧ LTh N S w wr d n room nx ls) (fun _ kv _ => n - (intOf kv).toNat)
  case atStart => exact ⟨0, rfl, Nat.zero_le _, rfl, HW.out⟩
  case round =>
    obtain ⟨k, rfl, hkm, rfl, hL⟩ := hrel
    have HL : Hid (LTh N S w wr d n room nx ls) := hL
    have hNr : N ≤ wr.heap.size := Nat.le_trans HN.out hL.out.size
    obtain ⟨c', bs, F, hX⟩ := hL.q
    obtain ⟨⟨g0, g1, gf⟩, gp⟩ := hX.cells
    obtain ⟨J, HJ⟩ : ∃ J, Hid ((nx + k) % n = J) := ⟨_, rfl⟩
    have hJ : J < n := by rw [← HJ.out]; exact Nat.mod_lt _ (by omega)
    have gi := gp J hJ
    have hw1 : IntKind.i64.wrap ((nx : Int) + (k : Int)) = (nx : Int) + (k : Int) := by rw [IntKind.wrap_i64]; omega
    have hw2 : ((nx : Int) + (k : Int)).tmod (n : Int) = (J : Int) := by
      rw [← HJ.out]
      have := Int.ofNat_tmod (nx + k) n
      simpa using this.symm
    have hnz : ((n : Int) == 0) = false := by simp; omega
    have hkn : (k : Int) < (n : Int) := by omega
    have hJn : (J : Int) < (n : Int) := by omega
    have HT : Hid (∀ q, Calls Try.prog 26 #[.pointer (some ⟨bs J, 0, none⟩)] (wr.drewN q) fun e w' => e = .returned (.tuple #[Value.int .i64 ((ls J).headD 0), .bool (!(ls J).isEmpty)]) ∧ Th N (F J) (wr.drewN q) w' (bs J) room (ls J).tail) := fun q => take_any ((hX.qs J hJ).out (X := fun _ => False) (Out.drew wr q) (fun _ _ hf => hf)) hNr
    have HS : Hid (∀ q w', Th N (F J) (wr.drewN q) w' (bs J) room (ls J).tail → LX N (grew (grew S w wr) wr w') w' d c' bs (upd F J (grew (F J) (wr.drewN q) w')) n room nx (upd ls J (ls J).tail) ∧ Out (grew S w wr) wr w') := fun q w' ht => by
      obtain ⟨h1, h2⟩ := (hX.out (X := fun _ => False) (Out.drew wr q) (fun _ _ hf => hf)).step (w' := w') hNr hJ ht
      exact ⟨h1, (Out.drew wr q).trans h2 (fun i hi _ => hi)⟩
    by_cases hk : k < m
    · have hE : ls J = [] := by rw [← HJ.out]; exact HZ.out k hk
      simp only [hE, List.headD_nil, List.isEmpty_nil, Bool.not_true, List.tail_nil] at HT HS
      have HE : Hid (ls J = []) := hE
      clear hL hX gp hE
      go_wp2
      go_quiet (fail)
      go_wp2_with (go_at_call 26; refine (HT.out _).mono ?_; rintro e w2 ⟨rfl, ht⟩; have HTT : Hid _ := ht; clear ht)
      have hst := HS.out _ _ HTT.out
      have hsame : upd ls J [] = ls := by rw [← HE.out]; exact upd_same ls J
      have hst1 := hst.1
      rw [hsame] at hst1
      exact ⟨⟨k + 1, by go_num, by omega, rfl, HL.out.trans ⟨⟨_, _, _, hst1⟩, hst.2⟩⟩, by simp [intOf]; omega⟩
    · have hkm' : k = m := by omega
      subst hkm'
      have hJM : J = M := by rw [← HJ.out, ← HM.out]
      subst hJM
      have hE : ls J = x :: t := HX.out
      simp only [hE, List.headD_cons, List.isEmpty_cons, Bool.not_false, List.tail_cons] at HT HS
      have HFIN : Hid (∀ q w', Th N (F J) (wr.drewN q) w' (bs J) room t → (w'.cell? ⟨d, 1, none⟩ = some (.int .i64 (nx : Int)) ∧ w'.frozen? ⟨d, 1, none⟩ = false) ∧ LTh N S w (w'.setCell ⟨d, 1, none⟩ (.int .i64 ((J + 1 : Nat) : Int))) d n room (J + 1) (upd ls J t)) := fun q w' ht => by
        obtain ⟨h1, h2⟩ := HS.out q w' ht
        obtain ⟨⟨_, k1, kf⟩, _⟩ := h1.cells
        have h3 := h1.next (J + 1) (by omega)
        have e : grew (grew S w wr) wr (w'.setCell ⟨d, 1, none⟩ (.int .i64 ((J + 1 : Nat) : Int))) = grew (grew S w wr) wr w' := by
          funext i
          simp only [grew, size_set]
        rw [← e] at h3
        exact ⟨⟨k1, kf⟩, HL.out.trans ⟨⟨_, _, _, h3⟩, h2.put hX.Sd⟩⟩
      have hw3 : IntKind.i64.wrap ((J : Int) + 1) = ((J + 1 : Nat) : Int) := by rw [IntKind.wrap_i64]; omega
      clear hL hX gp hE HS HZ HX
      go_wp2
      go_quiet (fail)
      go_wp2_with (go_at_call 26; refine (HT.out _).mono ?_; rintro e w2 ⟨rfl, ht⟩; obtain ⟨⟨k1, kf⟩, hfin⟩ := HFIN.out _ _ ht; have HF : Hid _ := hfin; clear ht hfin)
      go_ret3
      exact ⟨rfl, HF.out⟩

set_option maxRecDepth 100000 in
set_option maxHeartbeats 2000000 in
/-- Take, where all are empty. -/
theorem ltake_none {N : Nat} {S : Nat → Prop} {w : World} {d n room nx : Nat} {ls : Nat → List Int} (h : La N S w d n room nx ls) (hN : N ≤ w.heap.size) (hz : ∀ i, i < n → ls i = []) :
    Calls Try.prog 22 #[.pointer (some ⟨d, 0, none⟩)] w fun e w' => e = .returned (.tuple #[.int .i64 0, Value.int .i64 0, .bool false]) ∧ LTh N S w w' d n room nx ls := by
  obtain ⟨hn1, hn64, hnx⟩ : 1 ≤ n ∧ n ≤ 64 ∧ nx ≤ n := by obtain ⟨c, bs, F, h⟩ := h; exact ⟨h.n1, h.n64, h.nx⟩
  have HW : Hid (LTh N S w w d n room nx ls) := by obtain ⟨c, bs, F, h⟩ := h; exact h.same
  have HZ : Hid (∀ i, i < n → ls i = []) := hz
  have HN : Hid (N ≤ w.heap.size) := hN
  have c0 : w.cell? ⟨d, 0, none⟩ = some (.slice (some ⟨h.choose, 0, none⟩) n n) := by
    obtain ⟨bs, F, h'⟩ := h.choose_spec
    exact h'.cells.1.1
  generalize h.choose = c at c0
  clear h hz hN
  go_enter Try.func22, Try.ntmps22
  go_wp2
  go_loopw [3, 11] (fun xv kv wr => ∃ k : Nat, kv = .int .i64 (k : Int) ∧ k ≤ n ∧ xv = Value.int .i64 0 ∧ LTh N S w wr d n room nx ls) (fun _ kv _ => n - (intOf kv).toNat)
  case atStart => exact ⟨0, rfl, Nat.zero_le _, rfl, HW.out⟩
  case round =>
    obtain ⟨k, rfl, hkm, rfl, hL⟩ := hrel
    have HL : Hid (LTh N S w wr d n room nx ls) := hL
    by_cases hk : k < n
    · have hNr : N ≤ wr.heap.size := Nat.le_trans HN.out hL.out.size
      obtain ⟨c', bs, F, hX⟩ := hL.q
      obtain ⟨⟨g0, g1, gf⟩, gp⟩ := hX.cells
      obtain ⟨J, HJ⟩ : ∃ J, Hid ((nx + k) % n = J) := ⟨_, rfl⟩
      have hJ : J < n := by rw [← HJ.out]; exact Nat.mod_lt _ (by omega)
      have gi := gp J hJ
      have hw1 : IntKind.i64.wrap ((nx : Int) + (k : Int)) = (nx : Int) + (k : Int) := by rw [IntKind.wrap_i64]; omega
      have hw2 : ((nx : Int) + (k : Int)).tmod (n : Int) = (J : Int) := by
        rw [← HJ.out]
        have := Int.ofNat_tmod (nx + k) n
        simpa using this.symm
      have hnz : ((n : Int) == 0) = false := by simp; omega
      have hkn : (k : Int) < (n : Int) := by omega
      have hJn : (J : Int) < (n : Int) := by omega
      have HT : Hid (∀ q, Calls Try.prog 26 #[.pointer (some ⟨bs J, 0, none⟩)] (wr.drewN q) fun e w' => e = .returned (.tuple #[Value.int .i64 ((ls J).headD 0), .bool (!(ls J).isEmpty)]) ∧ Th N (F J) (wr.drewN q) w' (bs J) room (ls J).tail) := fun q => take_any ((hX.qs J hJ).out (X := fun _ => False) (Out.drew wr q) (fun _ _ hf => hf)) hNr
      have HS : Hid (∀ q w', Th N (F J) (wr.drewN q) w' (bs J) room (ls J).tail → LX N (grew (grew S w wr) wr w') w' d c' bs (upd F J (grew (F J) (wr.drewN q) w')) n room nx (upd ls J (ls J).tail) ∧ Out (grew S w wr) wr w') := fun q w' ht => by
        obtain ⟨h1, h2⟩ := (hX.out (X := fun _ => False) (Out.drew wr q) (fun _ _ hf => hf)).step (w' := w') hNr hJ ht
        exact ⟨h1, (Out.drew wr q).trans h2 (fun i hi _ => hi)⟩
      have hE : ls J = [] := HZ.out J hJ
      simp only [hE, List.headD_nil, List.isEmpty_nil, Bool.not_true, List.tail_nil] at HT HS
      have HE : Hid (ls J = []) := hE
      clear hL hX gp hE
      go_wp2
      go_quiet (fail)
      go_wp2_with (go_at_call 26; refine (HT.out _).mono ?_; rintro e w2 ⟨rfl, ht⟩; have HTT : Hid _ := ht; clear ht)
      have hst := HS.out _ _ HTT.out
      have hsame : upd ls J [] = ls := by rw [← HE.out]; exact upd_same ls J
      have hst1 := hst.1
      rw [hsame] at hst1
      exact ⟨⟨k + 1, by go_num, by omega, rfl, HL.out.trans ⟨⟨_, _, _, hst1⟩, hst.2⟩⟩, by simp [intOf]; omega⟩
    · have hkn : decide ((k : Int) < (n : Int)) = false := by simp; omega
      clear hL
      go_wp2
      go_ret3
      exact ⟨rfl, HL.out⟩

/-! ### lanes of (List UInt8) -/
/-- Block d holds lanes: the row of pointers in c, the queues in bs, their blocks in F. -/
structure SLX (N : Nat) (S : Nat → Prop) (w : World) (d c : Nat) (bs : Nat → Nat) (F : Nat → Nat → Prop) (n room nx : Nat) (ls : Nat → List (List UInt8)) : Prop where
  hd : w.heap[d]? = some (.cells #[.slice (some ⟨c, 0, none⟩) n n, .int .i64 (nx : Int)] 69 (0, 0))
  hc : ∃ cs, w.heap[c]? = some (.cells cs 66 (0, 0)) ∧ ∀ i, i < n → cs[i]? = some (.pointer (some ⟨bs i, 0, none⟩))
  qs : ∀ i, i < n → SQu N (F i) w (bs i) room (ls i)
  sub : ∀ i, i < n → ∀ g, F i g → S g ∧ g ≠ d ∧ g ≠ c
  ap : ∀ i j, i < n → j < n → i ≠ j → ∀ g, F i g → ¬ F j g
  Sd : S d
  Sc : S c
  n1 : 1 ≤ n
  n64 : n ≤ 64
  nx : nx ≤ n
  inn : ∀ i, S i → i < w.heap.size
  fr : ∀ i, S i → N ≤ i
/-- Block d holds lanes. -/
def SLa (N : Nat) (S : Nat → Prop) (w : World) (d n room nx : Nat) (ls : Nat → List (List UInt8)) : Prop := ∃ c bs F, SLX N S w d c bs F n room nx ls
structure SLTh (N : Nat) (S : Nat → Prop) (w w' : World) (d n room nx : Nat) (ls : Nat → List (List UInt8)) : Prop where
  q : SLa N (grew S w w') w' d n room nx ls
  out : Out S w w'

theorem SLX.ne {N : Nat} {S : Nat → Prop} {w : World} {d c : Nat} {bs : Nat → Nat} {F : Nat → Nat → Prop} {n room nx : Nat} {ls : Nat → List (List UInt8)} (h : SLX N S w d c bs F n room nx ls) : d ≠ c := fun e => by
  obtain ⟨cs, hc, -⟩ := h.hc
  rw [← e, h.hd] at hc
  simp at hc


theorem SLX.cells {N : Nat} {S : Nat → Prop} {w : World} {d c : Nat} {bs : Nat → Nat} {F : Nat → Nat → Prop} {n room nx : Nat} {ls : Nat → List (List UInt8)} (h : SLX N S w d c bs F n room nx ls) :
    (w.cell? ⟨d, 0, none⟩ = some (.slice (some ⟨c, 0, none⟩) n n) ∧ w.cell? ⟨d, 1, none⟩ = some (.int .i64 (nx : Int)) ∧ w.frozen? ⟨d, 1, none⟩ = false) ∧ ∀ i, i < n → w.cell? ⟨c, i, none⟩ = some (.pointer (some ⟨bs i, 0, none⟩)) := by
  have hd := h.hd
  obtain ⟨cs, hc, hp⟩ := h.hc
  refine ⟨⟨?_, ?_, ?_⟩, fun i hi => ?_⟩
  · simp [World.cell?, hd]
  · simp [World.cell?, hd]
  · simp [World.frozen?, hd]
  · simp only [World.cell?, hc]
    exact hp i hi

theorem SLX.out {N : Nat} {S X : Nat → Prop} {w w' : World} {d c : Nat} {bs : Nat → Nat} {F : Nat → Nat → Prop} {n room nx : Nat} {ls : Nat → List (List UInt8)} (h : SLX N S w d c bs F n room nx ls) (hO : Out X w w') (hx : ∀ i, S i → ¬ X i) : SLX N S w' d c bs F n room nx ls := by
  obtain ⟨cs, hc, hp⟩ := h.hc
  exact ⟨(hO.block d (h.inn _ h.Sd) (hx _ h.Sd)).trans h.hd, ⟨cs, (hO.block c (h.inn _ h.Sc) (hx _ h.Sc)).trans hc, hp⟩, fun i hi => (h.qs i hi).out hO (fun g hg => hx g (h.sub i hi g hg).1), h.sub, h.ap, h.Sd, h.Sc, h.n1, h.n64, h.nx, fun i hi => Nat.lt_of_lt_of_le (h.inn i hi) hO.size, h.fr⟩
theorem SLX.mono {N : Nat} {S S' : Nat → Prop} {w : World} {d c : Nat} {bs : Nat → Nat} {F : Nat → Nat → Prop} {n room nx : Nat} {ls : Nat → List (List UInt8)} (h : SLX N S w d c bs F n room nx ls) (hS : ∀ i, S i → S' i) (hi : ∀ i, S' i → i < w.heap.size) (hf : ∀ i, S' i → N ≤ i) : SLX N S' w d c bs F n room nx ls :=
  ⟨h.hd, h.hc, h.qs, fun i hi g hg => ⟨hS _ (h.sub i hi g hg).1, (h.sub i hi g hg).2⟩, h.ap, hS _ h.Sd, hS _ h.Sc, h.n1, h.n64, h.nx, hi, hf⟩
theorem SLa.out {N : Nat} {S X : Nat → Prop} {w w' : World} {d n room nx : Nat} {ls : Nat → List (List UInt8)} (h : SLa N S w d n room nx ls) (hO : Out X w w') (hx : ∀ i, S i → ¬ X i) : SLa N S w' d n room nx ls := by
  obtain ⟨c, bs, F, h⟩ := h
  exact ⟨c, bs, F, h.out hO hx⟩
theorem SLa.below {N : Nat} {S : Nat → Prop} {w w' : World} {d n room nx : Nat} {ls : Nat → List (List UInt8)} (h : SLa N S w d n room nx ls) (hB : Below w.heap.size w w') : SLa N S w' d n room nx ls :=
  h.out (X := fun _ => False) (Out.of_below hB) (fun _ _ hf => hf)
theorem SLa.fr {N : Nat} {S : Nat → Prop} {w : World} {d n room nx : Nat} {ls : Nat → List (List UInt8)} (h : SLa N S w d n room nx ls) : ∀ i, S i → N ≤ i := by
  obtain ⟨c, bs, F, h⟩ := h
  exact h.fr
theorem SLa.inn {N : Nat} {S : Nat → Prop} {w : World} {d n room nx : Nat} {ls : Nat → List (List UInt8)} (h : SLa N S w d n room nx ls) : ∀ i, S i → i < w.heap.size := by
  obtain ⟨c, bs, F, h⟩ := h
  exact h.inn
theorem SLTh.bel {N : Nat} {S : Nat → Prop} {w w' : World} {d n room nx : Nat} {ls : Nat → List (List UInt8)} (h : SLTh N S w w' d n room nx ls) (hN : N ≤ w.heap.size) : Below N w w' :=
  h.out.below hN (fun i hi => h.q.fr i (.inl hi))
theorem SLX.same {N : Nat} {S : Nat → Prop} {w : World} {d c : Nat} {bs : Nat → Nat} {F : Nat → Nat → Prop} {n room nx : Nat} {ls : Nat → List (List UInt8)} (h : SLX N S w d c bs F n room nx ls) : SLTh N S w w d n room nx ls :=
  ⟨⟨c, bs, F, h.mono (fun _ hi => .inl hi) (fun i hi => h.inn i (grew_refl hi)) (fun i hi => h.fr i (grew_refl hi))⟩, Out.refl _ _⟩

/-- A call of one of its queues. -/
theorem SLX.step {N : Nat} {S : Nat → Prop} {w w' : World} {d c : Nat} {bs : Nat → Nat} {F : Nat → Nat → Prop} {n room nx i : Nat} {ls : Nat → List (List UInt8)} {l' : List (List UInt8)} (h : SLX N S w d c bs F n room nx ls) (hN : N ≤ w.heap.size) (hi : i < n) (ht : STh N (F i) w w' (bs i) room l') :
    SLX N (grew S w w') w' d c bs (upd F i (grew (F i) w w')) n room nx (upd ls i l') ∧ Out S w w' := by
  have hO : Out S w w' := ht.out.mono (fun g hg => (h.sub i hi g hg).1)
  have hsz := hO.size
  obtain ⟨cs, hc, hp⟩ := h.hc
  have hsubi : ∀ g, grew (F i) w w' g → grew S w w' g ∧ g ≠ d ∧ g ≠ c := by
    rintro g (hg | hg)
    · exact ⟨.inl (h.sub i hi g hg).1, (h.sub i hi g hg).2⟩
    · refine ⟨.inr hg, ?_, ?_⟩
      · have := h.inn _ h.Sd; omega
      · have := h.inn _ h.Sc; omega
  refine ⟨⟨(ht.out.block d (h.inn _ h.Sd) (fun hx => (h.sub i hi d hx).2.1 rfl)).trans h.hd, ⟨cs, (ht.out.block c (h.inn _ h.Sc) (fun hx => (h.sub i hi c hx).2.2 rfl)).trans hc, hp⟩, ?_, ?_, ?_, .inl h.Sd, .inl h.Sc, h.n1, h.n64, h.nx, ?_, ?_⟩, hO⟩
  · intro j hj
    by_cases e : j = i
    · subst e
      rw [upd_at, upd_at]
      exact ht.q
    · rw [upd_ne _ _ _ e, upd_ne _ _ _ e]
      exact (h.qs j hj).out ht.out (fun g hg hx => h.ap j i hj hi e g hg hx)
  · intro j hj g hg
    by_cases e : j = i
    · subst e
      rw [upd_at] at hg
      exact hsubi g hg
    · rw [upd_ne _ _ _ e] at hg
      exact ⟨.inl (h.sub j hj g hg).1, (h.sub j hj g hg).2⟩
  · have key : ∀ j, j < n → j ≠ i → ∀ g, grew (F i) w w' g → ¬ F j g := fun j hj e g hg hx => by
      rcases hg with hg | hg
      · exact h.ap i j hi hj (fun e' => e e'.symm) g hg hx
      · have := h.inn _ (h.sub j hj g hx).1; omega
    intro j k hj hk hne g hg hx
    by_cases e : j = i
    · subst e
      rw [upd_at] at hg
      rw [upd_ne _ _ _ (fun e' => hne e'.symm)] at hx
      exact key k hk (fun e' => hne e'.symm) g hg hx
    · rw [upd_ne _ _ _ e] at hg
      by_cases e2 : k = i
      · subst e2
        rw [upd_at] at hx
        exact key j hj e g hx hg
      · rw [upd_ne _ _ _ e2] at hx
        exact h.ap j k hj hk hne g hg hx
  · rintro g (hg | hg)
    · exact Nat.lt_of_lt_of_le (h.inn g hg) hsz
    · exact hg.2
  · rintro g (hg | hg)
    · exact h.fr g hg
    · omega
/-- Where Take looks first. -/
theorem SLX.next {N : Nat} {S : Nat → Prop} {w : World} {d c : Nat} {bs : Nat → Nat} {F : Nat → Nat → Prop} {n room nx : Nat} {ls : Nat → List (List UInt8)} (h : SLX N S w d c bs F n room nx ls) (m : Nat) (hm : m ≤ n) : SLX N S (w.setCell ⟨d, 1, none⟩ (.int .i64 (m : Int))) d c bs F n room m ls := by
  obtain ⟨cs, hc, hp⟩ := h.hc
  have hO : Out (fun i => i = d) w (w.setCell ⟨d, 1, none⟩ (.int .i64 (m : Int))) := Out.set rfl
  exact ⟨by simpa using heap_set h.hd 1 (.int .i64 (m : Int)), ⟨cs, (hO.block c (h.inn _ h.Sc) (fun e => h.ne e.symm)).trans hc, hp⟩, fun i hi => (h.qs i hi).out hO (fun g hg => (h.sub i hi g hg).2.1), h.sub, h.ap, h.Sd, h.Sc, h.n1, h.n64, hm, fun i hi => by rw [size_set]; exact h.inn i hi, h.fr⟩

theorem Sgrew_grew {S : Nat → Prop} {w wr w2 : World} (h1 : w.heap.size ≤ wr.heap.size) (h2 : wr.heap.size ≤ w2.heap.size) : grew (grew S w wr) wr w2 = grew S w w2 := funext fun i => propext ⟨by
    rintro ((hi | hi) | hi)
    · exact .inl hi
    · exact .inr ⟨hi.1, by omega⟩
    · exact .inr ⟨by omega, hi.2⟩, by
    rintro (hi | hi)
    · exact .inl (.inl hi)
    · by_cases hc : i < wr.heap.size
      · exact .inl (.inr ⟨hi.1, hc⟩)
      · exact .inr ⟨by omega, hi.2⟩⟩

theorem Shas_any {N : Nat} {S : Nat → Prop} {w : World} {d n room nx : Nat} {ls : Nat → List (List UInt8)} (h : SLa N S w d n room nx ls) (k : Int) :
    Calls Try.prog 42 #[.pointer (some ⟨d, 0, none⟩), .int .i64 k] w fun e w' => e = .returned (.bool (decide (0 ≤ k) && decide (k < (n : Int)))) ∧ w' = w := by
  obtain ⟨c, bs, F, h⟩ := h
  obtain ⟨⟨c0, -⟩, -⟩ := h.cells
  clear h
  by_cases h1 : 0 ≤ k
  · go_enter Try.func42, Try.ntmps42
    go_wp2
    go_ret
    exact ⟨by simp [h1], rfl⟩
  · have h1' : decide (0 ≤ k) = false := by simpa using h1
    clear h1
    go_enter Try.func42, Try.ntmps42
    go_wp2
    go_ret
    exact ⟨by simp [h1'], rfl⟩

set_option maxRecDepth 100000 in
theorem Slput_any {N : Nat} {S : Nat → Prop} {w : World} {d n room nx : Nat} {ls : Nat → List (List UInt8)} (h : SLa N S w d n room nx ls) (hN : N ≤ w.heap.size) (i : Nat) (hi : i < n) (x : (List UInt8)) :
    Calls Try.prog 31 #[.pointer (some ⟨d, 0, none⟩), .int .i64 (i : Int), encStr x] w fun e w' => e = .returned (.bool (decide ((ls i).length < room))) ∧ SLTh N S w w' d n room nx (upd ls i (SputL room (ls i) x)) := by
  have HH := Shas_any h (i : Int)
  have e0 : (decide (0 ≤ (i : Int)) && decide ((i : Int) < (n : Int))) = true := by simp; omega
  rw [e0] at HH
  obtain ⟨c, bs, F, h⟩ := h
  obtain ⟨⟨c0, -, -⟩, cp⟩ := h.cells
  have ci := cp i hi
  have HP := Sput_any (h.qs i hi) hN x
  have HS : Hid (∀ w' l', STh N (F i) w w' (bs i) room l' → SLTh N S w w' d n room nx (upd ls i l')) := fun w' l' ht => by
    obtain ⟨h1, h2⟩ := h.step hN hi ht
    exact ⟨⟨_, _, _, h1⟩, h2⟩
  have hni : (i : Int) < (n : Int) := by omega
  clear h cp e0
  go_enter Try.func31, Try.ntmps31
  go_wp2_with (first
    | (go_at_call 42; refine HH.mono ?_; rintro e w1 ⟨rfl, hw1⟩; subst w1)
    | (go_at_call 43; refine HP.mono ?_; rintro e w2 ⟨rfl, ht⟩; have HT : Hid _ := ht; clear ht))
  go_ret
  exact ⟨rfl, HS.out _ _ HT.out⟩

theorem Slput_none {N : Nat} {S : Nat → Prop} {w : World} {d n room nx : Nat} {ls : Nat → List (List UInt8)} (h : SLa N S w d n room nx ls) (k : Int) (hk : ¬ (0 ≤ k ∧ k < (n : Int))) (x : (List UInt8)) :
    Calls Try.prog 31 #[.pointer (some ⟨d, 0, none⟩), .int .i64 k, encStr x] w fun e w' => e = .returned (.bool false) ∧ w' = w := by
  have HH := Shas_any h k
  have e0 : (decide (0 ≤ k) && decide (k < (n : Int))) = false := by simp; omega
  rw [e0] at HH
  clear h hk e0
  go_enter Try.func31, Try.ntmps31
  go_wp2_with (go_at_call 42; refine HH.mono ?_; rintro e w1 ⟨rfl, hw1⟩; subst w1)
  go_ret
  exact ⟨rfl, rfl⟩

/-- Lanes behind some calls. -/
theorem SLTh.trans {N : Nat} {S : Nat → Prop} {w wr w2 : World} {d n room nx n2 : Nat} {ls l2 : Nat → List (List UInt8)} (h : SLTh N S w wr d n room nx ls) (k : SLTh N (grew S w wr) wr w2 d n room n2 l2) : SLTh N S w w2 d n room n2 l2 :=
  ⟨by rw [← Sgrew_grew h.out.size k.out.size]; exact k.q, h.out.step k.out⟩

set_option maxRecDepth 100000 in
set_option maxHeartbeats 2000000 in
/-- Take, where the m-th lane from next on is the first that isn't empty. -/
theorem Sltake_any {N : Nat} {S : Nat → Prop} {w : World} {d n room nx : Nat} {ls : Nat → List (List UInt8)} (h : SLa N S w d n room nx ls) (hN : N ≤ w.heap.size) (m : Nat) (hm : m < n) (hz : ∀ k, k < m → ls ((nx + k) % n) = []) (x : (List UInt8)) (t : List (List UInt8)) (hx : ls ((nx + m) % n) = x :: t) :
    Calls Try.prog 32 #[.pointer (some ⟨d, 0, none⟩)] w fun e w' => e = .returned (.tuple #[.int .i64 (((nx + m) % n : Nat) : Int), encStr x, .bool true]) ∧ SLTh N S w w' d n room ((nx + m) % n + 1) (upd ls ((nx + m) % n) t) := by
  obtain ⟨hn1, hn64, hnx⟩ : 1 ≤ n ∧ n ≤ 64 ∧ nx ≤ n := by obtain ⟨c, bs, F, h⟩ := h; exact ⟨h.n1, h.n64, h.nx⟩
  have HW : Hid (SLTh N S w w d n room nx ls) := by obtain ⟨c, bs, F, h⟩ := h; exact h.same
  have HZ : Hid (∀ k, k < m → ls ((nx + k) % n) = []) := hz
  have HX : Hid (ls ((nx + m) % n) = x :: t) := hx
  have HN : Hid (N ≤ w.heap.size) := hN
  have c0 : w.cell? ⟨d, 0, none⟩ = some (.slice (some ⟨h.choose, 0, none⟩) n n) := by
    obtain ⟨bs, F, h'⟩ := h.choose_spec
    exact h'.cells.1.1
  generalize h.choose = c at c0
  obtain ⟨M, HM⟩ : ∃ M, Hid ((nx + m) % n = M) := ⟨_, rfl⟩
  rw [HM.out] at HX ⊢
  have hmn : M < n := by rw [← HM.out]; exact Nat.mod_lt _ (by omega)
  clear h hz hx hN
  go_enter Try.func32, Try.ntmps32
  go_wp2
  go_loopw [3, 11] (fun xv kv wr => ∃ k : Nat, kv = .int .i64 (k : Int) ∧ k ≤ m ∧ xv = encStr [] ∧ SLTh N S w wr d n room nx ls) (fun _ kv _ => n - (intOf kv).toNat)
  case atStart => exact ⟨0, rfl, Nat.zero_le _, rfl, HW.out⟩
  case round =>
    obtain ⟨k, rfl, hkm, rfl, hL⟩ := hrel
    have HL : Hid (SLTh N S w wr d n room nx ls) := hL
    have hNr : N ≤ wr.heap.size := Nat.le_trans HN.out hL.out.size
    obtain ⟨c', bs, F, hX⟩ := hL.q
    obtain ⟨⟨g0, g1, gf⟩, gp⟩ := hX.cells
    obtain ⟨J, HJ⟩ : ∃ J, Hid ((nx + k) % n = J) := ⟨_, rfl⟩
    have hJ : J < n := by rw [← HJ.out]; exact Nat.mod_lt _ (by omega)
    have gi := gp J hJ
    have hw1 : IntKind.i64.wrap ((nx : Int) + (k : Int)) = (nx : Int) + (k : Int) := by rw [IntKind.wrap_i64]; omega
    have hw2 : ((nx : Int) + (k : Int)).tmod (n : Int) = (J : Int) := by
      rw [← HJ.out]
      have := Int.ofNat_tmod (nx + k) n
      simpa using this.symm
    have hnz : ((n : Int) == 0) = false := by simp; omega
    have hkn : (k : Int) < (n : Int) := by omega
    have hJn : (J : Int) < (n : Int) := by omega
    have HT : Hid (∀ q, Calls Try.prog 44 #[.pointer (some ⟨bs J, 0, none⟩)] (wr.drewN q) fun e w' => e = .returned (.tuple #[encStr ((ls J).headD []), .bool (!(ls J).isEmpty)]) ∧ STh N (F J) (wr.drewN q) w' (bs J) room (ls J).tail) := fun q => Stake_any ((hX.qs J hJ).out (X := fun _ => False) (Out.drew wr q) (fun _ _ hf => hf)) hNr
    have HS : Hid (∀ q w', STh N (F J) (wr.drewN q) w' (bs J) room (ls J).tail → SLX N (grew (grew S w wr) wr w') w' d c' bs (upd F J (grew (F J) (wr.drewN q) w')) n room nx (upd ls J (ls J).tail) ∧ Out (grew S w wr) wr w') := fun q w' ht => by
      obtain ⟨h1, h2⟩ := (hX.out (X := fun _ => False) (Out.drew wr q) (fun _ _ hf => hf)).step (w' := w') hNr hJ ht
      exact ⟨h1, (Out.drew wr q).trans h2 (fun i hi _ => hi)⟩
    by_cases hk : k < m
    · have hE : ls J = [] := by rw [← HJ.out]; exact HZ.out k hk
      simp only [hE, List.headD_nil, List.isEmpty_nil, Bool.not_true, List.tail_nil] at HT HS
      have HE : Hid (ls J = []) := hE
      clear hL hX gp hE
      go_wp2
      go_quiet (fail)
      go_wp2_with (go_at_call 44; refine (HT.out _).mono ?_; rintro e w2 ⟨rfl, ht⟩; have HTT : Hid _ := ht; clear ht)
      have hst := HS.out _ _ HTT.out
      have hsame : upd ls J [] = ls := by rw [← HE.out]; exact upd_same ls J
      have hst1 := hst.1
      rw [hsame] at hst1
      exact ⟨⟨k + 1, by go_num, by omega, rfl, HL.out.trans ⟨⟨_, _, _, hst1⟩, hst.2⟩⟩, by simp [intOf]; omega⟩
    · have hkm' : k = m := by omega
      subst hkm'
      have hJM : J = M := by rw [← HJ.out, ← HM.out]
      subst hJM
      have hE : ls J = x :: t := HX.out
      simp only [hE, List.headD_cons, List.isEmpty_cons, Bool.not_false, List.tail_cons] at HT HS
      have HFIN : Hid (∀ q w', STh N (F J) (wr.drewN q) w' (bs J) room t → (w'.cell? ⟨d, 1, none⟩ = some (.int .i64 (nx : Int)) ∧ w'.frozen? ⟨d, 1, none⟩ = false) ∧ SLTh N S w (w'.setCell ⟨d, 1, none⟩ (.int .i64 ((J + 1 : Nat) : Int))) d n room (J + 1) (upd ls J t)) := fun q w' ht => by
        obtain ⟨h1, h2⟩ := HS.out q w' ht
        obtain ⟨⟨_, k1, kf⟩, _⟩ := h1.cells
        have h3 := h1.next (J + 1) (by omega)
        have e : grew (grew S w wr) wr (w'.setCell ⟨d, 1, none⟩ (.int .i64 ((J + 1 : Nat) : Int))) = grew (grew S w wr) wr w' := by
          funext i
          simp only [grew, size_set]
        rw [← e] at h3
        exact ⟨⟨k1, kf⟩, HL.out.trans ⟨⟨_, _, _, h3⟩, h2.put hX.Sd⟩⟩
      have hw3 : IntKind.i64.wrap ((J : Int) + 1) = ((J + 1 : Nat) : Int) := by rw [IntKind.wrap_i64]; omega
      clear hL hX gp hE HS HZ HX
      go_wp2
      go_quiet (fail)
      go_wp2_with (go_at_call 44; refine (HT.out _).mono ?_; rintro e w2 ⟨rfl, ht⟩; obtain ⟨⟨k1, kf⟩, hfin⟩ := HFIN.out _ _ ht; have HF : Hid _ := hfin; clear ht hfin)
      go_ret3
      exact ⟨rfl, HF.out⟩

set_option maxRecDepth 100000 in
set_option maxHeartbeats 2000000 in
/-- Take, where all are empty. -/
theorem Sltake_none {N : Nat} {S : Nat → Prop} {w : World} {d n room nx : Nat} {ls : Nat → List (List UInt8)} (h : SLa N S w d n room nx ls) (hN : N ≤ w.heap.size) (hz : ∀ i, i < n → ls i = []) :
    Calls Try.prog 32 #[.pointer (some ⟨d, 0, none⟩)] w fun e w' => e = .returned (.tuple #[.int .i64 0, encStr [], .bool false]) ∧ SLTh N S w w' d n room nx ls := by
  obtain ⟨hn1, hn64, hnx⟩ : 1 ≤ n ∧ n ≤ 64 ∧ nx ≤ n := by obtain ⟨c, bs, F, h⟩ := h; exact ⟨h.n1, h.n64, h.nx⟩
  have HW : Hid (SLTh N S w w d n room nx ls) := by obtain ⟨c, bs, F, h⟩ := h; exact h.same
  have HZ : Hid (∀ i, i < n → ls i = []) := hz
  have HN : Hid (N ≤ w.heap.size) := hN
  have c0 : w.cell? ⟨d, 0, none⟩ = some (.slice (some ⟨h.choose, 0, none⟩) n n) := by
    obtain ⟨bs, F, h'⟩ := h.choose_spec
    exact h'.cells.1.1
  generalize h.choose = c at c0
  clear h hz hN
  go_enter Try.func32, Try.ntmps32
  go_wp2
  go_loopw [3, 11] (fun xv kv wr => ∃ k : Nat, kv = .int .i64 (k : Int) ∧ k ≤ n ∧ xv = encStr [] ∧ SLTh N S w wr d n room nx ls) (fun _ kv _ => n - (intOf kv).toNat)
  case atStart => exact ⟨0, rfl, Nat.zero_le _, rfl, HW.out⟩
  case round =>
    obtain ⟨k, rfl, hkm, rfl, hL⟩ := hrel
    have HL : Hid (SLTh N S w wr d n room nx ls) := hL
    by_cases hk : k < n
    · have hNr : N ≤ wr.heap.size := Nat.le_trans HN.out hL.out.size
      obtain ⟨c', bs, F, hX⟩ := hL.q
      obtain ⟨⟨g0, g1, gf⟩, gp⟩ := hX.cells
      obtain ⟨J, HJ⟩ : ∃ J, Hid ((nx + k) % n = J) := ⟨_, rfl⟩
      have hJ : J < n := by rw [← HJ.out]; exact Nat.mod_lt _ (by omega)
      have gi := gp J hJ
      have hw1 : IntKind.i64.wrap ((nx : Int) + (k : Int)) = (nx : Int) + (k : Int) := by rw [IntKind.wrap_i64]; omega
      have hw2 : ((nx : Int) + (k : Int)).tmod (n : Int) = (J : Int) := by
        rw [← HJ.out]
        have := Int.ofNat_tmod (nx + k) n
        simpa using this.symm
      have hnz : ((n : Int) == 0) = false := by simp; omega
      have hkn : (k : Int) < (n : Int) := by omega
      have hJn : (J : Int) < (n : Int) := by omega
      have HT : Hid (∀ q, Calls Try.prog 44 #[.pointer (some ⟨bs J, 0, none⟩)] (wr.drewN q) fun e w' => e = .returned (.tuple #[encStr ((ls J).headD []), .bool (!(ls J).isEmpty)]) ∧ STh N (F J) (wr.drewN q) w' (bs J) room (ls J).tail) := fun q => Stake_any ((hX.qs J hJ).out (X := fun _ => False) (Out.drew wr q) (fun _ _ hf => hf)) hNr
      have HS : Hid (∀ q w', STh N (F J) (wr.drewN q) w' (bs J) room (ls J).tail → SLX N (grew (grew S w wr) wr w') w' d c' bs (upd F J (grew (F J) (wr.drewN q) w')) n room nx (upd ls J (ls J).tail) ∧ Out (grew S w wr) wr w') := fun q w' ht => by
        obtain ⟨h1, h2⟩ := (hX.out (X := fun _ => False) (Out.drew wr q) (fun _ _ hf => hf)).step (w' := w') hNr hJ ht
        exact ⟨h1, (Out.drew wr q).trans h2 (fun i hi _ => hi)⟩
      have hE : ls J = [] := HZ.out J hJ
      simp only [hE, List.headD_nil, List.isEmpty_nil, Bool.not_true, List.tail_nil] at HT HS
      have HE : Hid (ls J = []) := hE
      clear hL hX gp hE
      go_wp2
      go_quiet (fail)
      go_wp2_with (go_at_call 44; refine (HT.out _).mono ?_; rintro e w2 ⟨rfl, ht⟩; have HTT : Hid _ := ht; clear ht)
      have hst := HS.out _ _ HTT.out
      have hsame : upd ls J [] = ls := by rw [← HE.out]; exact upd_same ls J
      have hst1 := hst.1
      rw [hsame] at hst1
      exact ⟨⟨k + 1, by go_num, by omega, rfl, HL.out.trans ⟨⟨_, _, _, hst1⟩, hst.2⟩⟩, by simp [intOf]; omega⟩
    · have hkn : decide ((k : Int) < (n : Int)) = false := by simp; omega
      clear hL
      go_wp2
      go_ret3
      exact ⟨rfl, HL.out⟩

end Go.Proofs.Ythaoobfldponpaa
