/-
  A queue in memory: its block, the row of its things; what New, Room, Peek, Take, Put do.
-/
import Derived.Test.YthaoobfldponpaaLy
import Derived.Test.YthaoobfldponpaaBas
import Derived.Ground.Names2Prog
namespace Go.Proofs.Ythaoobfldponpaa
open Go.RowKit Go.Shelf
set_option linter.unusedVariables false

theorem possible_any (n : Int) (w : World) : Calls Try.prog 33 #[.int .i64 n] w fun e w' => e = .returned (.bool (decide (1 ≤ n) && decide (n ≤ 64))) ∧ w' = w := by
  by_cases h1 : 1 ≤ n
  · by_cases h2 : n ≤ 64
    · go_enter Try.func33, Try.ntmps33
      go_wp2
      go_ret
      exact ⟨by simp [h1, h2], rfl⟩
    · go_enter Try.func33, Try.ntmps33
      go_wp2
      go_ret
      exact ⟨by simp; omega, rfl⟩
  · go_enter Try.func33, Try.ntmps33
    go_wp2
    go_ret
    exact ⟨by simp; omega, rfl⟩

/-! ### queues of Int -/

theorem holds_of {w : World} {g : Nat} {cur : Array Value} {e : TypeId} {l : List Int} (hb : w.heap[g]? = some (.cells cur e (0, 0))) (ht : cur.toList.take l.length = l.map (Value.int .i64)) : Go.Sort.Holds (Value.int .i64) w g 0 l.toArray := by
  intro j hj
  simp at hj
  have h5 : cur.toList[j]? = some (Value.int .i64 l[j]) := by
    have : (cur.toList.take l.length)[j]? = (l.map (Value.int .i64))[j]? := by rw [ht]
    rw [List.getElem?_take, if_pos hj, List.getElem?_map] at this
    rw [this, List.getElem?_eq_getElem hj]; rfl
  refine ⟨?_, ?_⟩
  · simp only [World.cell?, hb, Nat.zero_add]
    rw [getElem!_pos _ j (by simpa using hj)]
    simpa using h5
  · simp [World.frozen?, hb]

theorem heap_putRow {w : World} {g n : Nat} {cur : Array Value} {e : TypeId} {fr : Nat × Nat} (d : Array Int) (hb : w.heap[g]? = some (.cells cur e fr)) :
    (Go.Sort.putRow (Value.int .i64) (Go.Sort.ahead w n) g 0 d).heap[g]? = some (.cells (Go.Sort.putCells (Value.int .i64) 0 d cur) e fr) := by
  simp [Go.Sort.putRow, Go.Sort.mapBlock, Go.Sort.ahead, Array.getElem?_modify, hb, Go.Sort.onCells]

theorem out_putRow {w : World} {g n : Nat} (d : Array Int) : Out (fun i => i = g) w (Go.Sort.putRow (Value.int .i64) (Go.Sort.ahead w n) g 0 d) := by
  refine ⟨rfl, rfl, rfl, by simp [Go.Sort.putRow, Go.Sort.mapBlock, Go.Sort.ahead], fun i _ hi => ?_⟩
  simp only [Go.Sort.putRow, Go.Sort.mapBlock, Go.Sort.ahead, Array.getElem?_modify]
  rw [if_neg (fun e => hi (Eq.symm e))]

theorem take_put (cur : Array Value) (l : List Int) (x : Int) (h : l.length + 1 ≤ cur.size) : (Go.Sort.putCells (Value.int .i64) 0 (l ++ [x]).toArray cur).toList.take l.length = l.map (Value.int .i64) := by
  apply List.ext_getElem?
  intro i
  rw [List.getElem?_take]
  by_cases hi : i < l.length
  · rw [if_pos hi, List.getElem?_map, List.getElem?_eq_getElem hi]
    simp only [Go.Sort.putCells, Array.getElem?_toList, Array.getElem?_mapIdx]
    rw [Array.getElem?_eq_getElem (by omega)]
    simp only [Option.map_some]
    rw [if_pos ⟨by omega, by simp; omega⟩, getElem!_pos _ _ (by simp; omega)]
    simp [List.getElem_append_left hi]
  · rw [if_neg hi, List.getElem?_eq_none (by simpa using hi)]

set_option maxRecDepth 100000 in
/-- slices.Delete of the first one. -/
theorem delete_any (v : Value) (x : Int) (l : List Int) (w : World) (h : Ow 0 w v (x :: l)) :
    Calls Try.prog 40 #[v, .int .i64 0, .int .i64 1] w fun e w' => ∃ v', e = .returned v' ∧ Ow 0 w' v' l ∧ Out (fun i => v.ownBlock = some i) w w' ∧ v'.ownBlock = v.ownBlock ∧ w'.heap.size = w.heap.size := by
  rcases h.2 with ⟨rfl, h2⟩ | ⟨g, cap, cur, rfl, hg, hb, hc, hm, hs, ht⟩
  · simp at h2
  · simp only [Nat.mul_one] at ht hs
    have H := Any.slices_Delete_int Try.laysNm223 g 0 cap 0 1 (x :: l) w (holds_of hb ht) hc (by unfold maxLen at hm; omega) (by omega) (by simp)
    refine H.mono ?_
    rintro e w' ⟨rfl, q, rfl⟩
    have hd : (List.take 0 (x :: l) ++ List.drop 1 (x :: l) ++ List.replicate (1 - 0) 0).toArray = (l ++ [0]).toArray := by simp
    rw [hd]
    have hc' : l.length + 1 ≤ cap := by simpa using hc
    refine ⟨_, rfl, ⟨by simp, .inr ⟨g, cap, _, by simp, hg, heap_putRow _ hb, by omega, hm, ?_, ?_⟩⟩, (out_putRow _).mono (fun i hi => by simp [Value.ownBlock, hi]), rfl, by simp [Go.Sort.putRow, Go.Sort.mapBlock, Go.Sort.ahead]⟩
    · simpa [Go.Sort.putCells] using hs
    · rw [Nat.mul_one]
      exact take_put cur l 0 (by omega)

/-- Block b holds a queue; its blocks lie in S, from N on. -/
structure Qu (N : Nat) (S : Nat → Prop) (w : World) (b room : Nat) (l : List Int) : Prop where
  at_ : ∃ v, w.heap[b]? = some (.cells #[.int .i64 (room : Int), v] 58 (0, 0)) ∧ Ow 0 w v l ∧ ∀ g, v.ownBlock = some g → S g
  len : l.length ≤ room
  rm : room ≤ 64
  Sb : S b
  inn : ∀ i, S i → i < w.heap.size
  fr : ∀ i, S i → N ≤ i

/-- Behind a call the queue holds l; nothing else has turned. -/
structure Th (N : Nat) (S : Nat → Prop) (w w' : World) (b room : Nat) (l : List Int) : Prop where
  q : Qu N (grew S w w') w' b room l
  out : Out S w w'

theorem Qu.out {N : Nat} {S X : Nat → Prop} {w w' : World} {b room : Nat} {l : List Int} (h : Qu N S w b room l) (hO : Out X w w') (hx : ∀ i, S i → ¬ X i) : Qu N S w' b room l := by
  obtain ⟨v, hv, ho, hs⟩ := h.at_
  exact ⟨⟨v, (hO.block b (h.inn _ h.Sb) (hx _ h.Sb)).trans hv, ho.out hO (fun g hg => hx _ (hs g hg)), hs⟩, h.len, h.rm, h.Sb, fun i hi => Nat.lt_of_lt_of_le (h.inn i hi) hO.size, h.fr⟩
theorem Qu.below {N : Nat} {S : Nat → Prop} {w w' : World} {b room : Nat} {l : List Int} (h : Qu N S w b room l) (hB : Below w.heap.size w w') : Qu N S w' b room l :=
  h.out (X := fun _ => False) (Out.of_below hB) (fun _ _ hf => hf)
theorem Th.bel {N : Nat} {S : Nat → Prop} {w w' : World} {b room : Nat} {l : List Int} (h : Th N S w w' b room l) (hN : N ≤ w.heap.size) : Below N w w' :=
  h.out.below hN (fun i hi => h.q.fr i (.inl hi))

theorem Qu.cells {N : Nat} {S : Nat → Prop} {w : World} {b room : Nat} {l : List Int} (h : Qu N S w b room l) :
    ∃ a c, (w.cell? ⟨b, 0, none⟩ = some (.int .i64 (room : Int)) ∧ w.cell? ⟨b, 1, none⟩ = some (.slice a l.length c) ∧ w.frozen? ⟨b, 1, none⟩ = false) ∧ Ow 0 w (.slice a l.length c) l ∧ (∀ g, (Value.slice a l.length c).ownBlock = some g → S g) ∧ w.heap[b]? = some (.cells #[.int .i64 (room : Int), .slice a l.length c] 58 (0, 0)) := by
  obtain ⟨v, hv, ho, hs⟩ := h.at_
  obtain ⟨a, c, rfl, -⟩ := ho.shape
  refine ⟨a, c, ⟨?_, ?_, ?_⟩, ho, hs, hv⟩ <;> simp [World.cell?, World.frozen?, hv]

/-- The row has turned, and the struct tells it. -/
theorem Qu.turn {N : Nat} {S : Nat → Prop} {w w1 : World} {b room : Nat} {l l' : List Int} {v v' : Value} (h : Qu N S w b room l) (hN : N ≤ w.heap.size) (hb : w.heap[b]? = some (.cells #[.int .i64 (room : Int), v] 58 (0, 0))) (ho : Ow 0 w v l) (hvS : ∀ g, v.ownBlock = some g → S g)
    (hO : Out (fun i => v.ownBlock = some i) w w1) (hv' : Ow 0 w1 v' l') (hg : v'.ownBlock = v.ownBlock ∨ (∀ g, v'.ownBlock = some g → w.heap.size ≤ g)) (hl : l'.length ≤ room) : Th N S w (w1.setCell ⟨b, 1, none⟩ v') b room l' := by
  have hne : v.ownBlock ≠ some b := ho.not_at hb (by decide)
  have hb1 : w1.heap[b]? = some (.cells #[.int .i64 (room : Int), v] 58 (0, 0)) := (hO.block b (h.inn _ h.Sb) hne).trans hb
  have hO1 : Out S w w1 := hO.mono (fun i hi => hvS i hi)
  have hO2 : Out S w (w1.setCell ⟨b, 1, none⟩ v') := hO1.put h.Sb
  refine ⟨⟨⟨v', by simpa using heap_set hb1 1 v', ?_, ?_⟩, hl, h.rm, .inl h.Sb, ?_, ?_⟩, hO2⟩
  · exact hv'.out (X := fun i => i = b) (Out.set rfl) (fun g hg' e => by subst e; exact hv'.not_at hb1 (by decide) hg')
  · intro g hg'
    rcases hg with e | e
    · exact .inl (hvS g (e ▸ hg'))
    · exact .inr ⟨e g hg', by rw [size_set]; exact (hv'.lt hg').2⟩
  · rintro i (hi | hi)
    · exact Nat.lt_of_lt_of_le (h.inn i hi) hO2.size
    · exact hi.2
  · rintro i (hi | hi)
    · exact h.fr i hi
    · omega

theorem peek_any {N : Nat} {S : Nat → Prop} {w : World} {b room : Nat} {l : List Int} (h : Qu N S w b room l) :
    Calls Try.prog 34 #[.pointer (some ⟨b, 0, none⟩)] w fun e w' => e = .returned (.tuple #[Value.int .i64 (l.headD 0), .bool (!l.isEmpty)]) ∧ w' = w := by
  obtain ⟨a, c, ⟨c0, c1, -⟩, ho, -, -⟩ := h.cells
  clear h
  cases l with
  | nil =>
    clear ho
    simp only [List.length_nil] at c1
    go_enter Try.func34, Try.ntmps34
    go_wp2
    go_ret2
    exact ⟨rfl, rfl⟩
  | cons x t =>
    obtain ⟨a', cap, hv, -, -, hc⟩ := ho.sl (Nat.le_refl _)
    cases hv
    obtain ⟨g, off, rfl, -, hc⟩ := hc.resolve_left (by simp)
    have k0 := hc 0 (by simp)
    simp only [Nat.add_zero, List.getElem?_cons_zero, Option.getD_some] at k0
    have hl : 0 < (x :: t).length := by simp
    have e1 : (((x :: t).length : Int) == 0) = false := by simp; omega
    clear hc ho
    generalize (x :: t).length = n at *
    go_enter Try.func34, Try.ntmps34
    go_wp2
    go_ret2
    exact ⟨rfl, rfl⟩

theorem room_any {N : Nat} {S : Nat → Prop} {w : World} {b room : Nat} {l : List Int} (h : Qu N S w b room l) :
    Calls Try.prog 24 #[.pointer (some ⟨b, 0, none⟩)] w fun e w' => e = .returned (.int .i64 ((room - l.length : Nat) : Int)) ∧ ∃ n, w' = w.drewN n := by
  obtain ⟨a, c, ⟨c0, c1, -⟩, -, -, -⟩ := h.cells
  have hl := h.len
  have hr := h.rm
  have HE : Hid (((room - l.length : Nat) : Int) = (room : Int) - (l.length : Int)) := by show _ = _; omega
  rw [HE.out]
  clear h
  have hw : IntKind.i64.wrap ((room : Int) - (l.length : Int)) = (room : Int) - (l.length : Int) := by rw [IntKind.wrap_i64]; omega
  generalize l.length = n at *
  go_enter Try.func24, Try.ntmps24
  go_wp2
  go_quiet (fail)
  go_wp2
  go_ret
  exact ⟨rfl, _, rfl⟩

set_option maxRecDepth 100000 in
theorem take_any {N : Nat} {S : Nat → Prop} {w : World} {b room : Nat} {l : List Int} (h : Qu N S w b room l) (hN : N ≤ w.heap.size) :
    Calls Try.prog 26 #[.pointer (some ⟨b, 0, none⟩)] w fun e w' => e = .returned (.tuple #[Value.int .i64 (l.headD 0), .bool (!l.isEmpty)]) ∧ Th N S w w' b room l.tail := by
  obtain ⟨a, c, ⟨c0, c1, f1⟩, ho, hS, hb⟩ := h.cells
  have HP : Hid (Calls Try.prog 34 #[.pointer (some ⟨b, 0, none⟩)] w fun e w' => e = .returned (.tuple #[Value.int .i64 (l.headD 0), .bool (!l.isEmpty)]) ∧ w' = w) := peek_any h
  cases l with
  | nil =>
    have HT : Hid (Th N S w w b room []) := ⟨⟨h.at_.imp fun v hv => ⟨hv.1, hv.2.1, fun g hg => .inl (hv.2.2 g hg)⟩, h.len, h.rm, .inl h.Sb, fun i hi => h.inn i (grew_refl hi), fun i hi => h.fr i (grew_refl hi)⟩, Out.refl _ _⟩
    clear h ho hS hb
    go_enter Try.func26, Try.ntmps26
    go_wp2_with (go_at_call 34; refine HP.out.mono ?_; rintro e w1 ⟨rfl, rfl⟩)
    go_ret2
    exact ⟨rfl, HT.out⟩
  | cons x t =>
    have HD := delete_any _ x t w ho
    have HT : Hid (∀ w1 v', Ow 0 w1 v' t → Out (fun i => (Value.slice a (x :: t).length c).ownBlock = some i) w w1 → v'.ownBlock = (Value.slice a (x :: t).length c).ownBlock → Th N S w (w1.setCell ⟨b, 1, none⟩ v') b room t) := fun w1 v' h1 h2 h3 => h.turn hN hb ho hS h2 h1 (.inl h3) (by have := h.len; simp at this; omega)
    have HF : Hid (∀ w1, Out (fun i => (Value.slice a (x :: t).length c).ownBlock = some i) w w1 → w1.cell? ⟨b, 1, none⟩ = some (.slice a (x :: t).length c) ∧ w1.frozen? ⟨b, 1, none⟩ = false) := fun w1 hO => by
      have hne : (Value.slice a (x :: t).length c).ownBlock ≠ some b := ho.not_at hb (by decide)
      have hb1 := (hO.block b (h.inn _ h.Sb) hne).trans hb
      refine ⟨?_, ?_⟩ <;> simp [World.cell?, World.frozen?, hb1]
    generalize (x :: t).length = n at *
    clear h ho hS hb
    go_enter Try.func26, Try.ntmps26
    go_wp2_with (first
      | (go_at_call 34; refine HP.out.mono ?_; rintro e w1 ⟨rfl, rfl⟩)
      | (go_at_call 40; refine HD.mono ?_; rintro e w1 ⟨v', rfl, g1, g2, g3, -⟩; obtain ⟨k1, kf⟩ := HF.out w1 g2; have HW := HT.out w1 v' g1 g2 g3; obtain ⟨a', c', rfl, -⟩ := g1.shape; clear g1 g2 g3))
    go_ret2
    exact ⟨rfl, HW⟩

/-- What a queue holds behind a Put. -/
def putL (room : Nat) (l : List Int) (x : Int) : List Int := if l.length < room then l ++ [x] else l

set_option maxRecDepth 100000 in
theorem put_any {N : Nat} {S : Nat → Prop} {w : World} {b room : Nat} {l : List Int} (h : Qu N S w b room l) (hN : N ≤ w.heap.size) (x : Int) :
    Calls Try.prog 25 #[.pointer (some ⟨b, 0, none⟩), Value.int .i64 x] w fun e w' => e = .returned (.bool (decide (l.length < room))) ∧ Th N S w w' b room (putL room l x) := by
  have HR : Hid (Calls Try.prog 24 #[.pointer (some ⟨b, 0, none⟩)] w fun e w' => e = .returned (.int .i64 ((room - l.length : Nat) : Int)) ∧ ∃ n, w' = w.drewN n) := room_any h
  have hq : ∀ n, Qu N S (w.drewN n) b room l := fun n => h.out (X := fun _ => False) (Out.drew w n) (fun _ _ hf => hf)
  by_cases hl : l.length < room
  · have e0 : (((room - l.length : Nat) : Int) == 0) = false := by simp; omega
    have HL : Hid (l.length < room) := hl
    have HPL : Hid (putL room l x = l ++ [x]) := if_pos hl
    have hm := h.rm
    have HA : Hid (∀ n, ∃ a c, ((w.drewN n).cell? ⟨b, 1, none⟩ = some (.slice a l.length c)) ∧ Ow 0 ((w.drewN n).alloc (.cells #[Value.int .i64 x] 3)) (.slice a l.length c) l ∧ ∀ v' w2, Ow 0 w2 v' (l ++ [x]) → ((w.drewN n).alloc (.cells #[Value.int .i64 x] 3)).grownBy w2 (Value.slice a l.length c).ownBlock → (v'.ownBlock = (Value.slice a l.length c).ownBlock ∨ v'.ownBlock = some ((w.drewN n).alloc (.cells #[Value.int .i64 x] 3)).heap.size) → (w2.cell? ⟨b, 1, none⟩ = some (.slice a l.length c) ∧ w2.frozen? ⟨b, 1, none⟩ = false) ∧ Th N S w (w2.setCell ⟨b, 1, none⟩ v') b room (l ++ [x])) := fun n => by
      obtain ⟨a, c, ⟨c0, c1, f1⟩, ho, hS, hb⟩ := (hq n).cells
      refine ⟨a, c, c1, ho.alloc _, fun v' w2 h1 h2 h3 => ?_⟩
      have hOa : Out (fun i => (Value.slice a l.length c).ownBlock = some i) (w.drewN n) w2 := (Out.grown (World.grownBy_alloc (w.drewN n) (.cells #[Value.int .i64 x] 3) none) (fun j hj => by cases hj)).trans (Out.grown h2 (X := fun i => (Value.slice a l.length c).ownBlock = some i) (fun j hj => hj)) (fun i hi _ => hi)
      have hne : (Value.slice a l.length c).ownBlock ≠ some b := ho.not_at hb (by decide)
      have hb1 := (hOa.block b ((hq n).inn _ (hq n).Sb) hne).trans hb
      have HT := (hq n).turn hN hb ho hS hOa h1 (h3.imp id (fun e g hg => by rw [e] at hg; cases hg; simp)) (by simp; omega)
      refine ⟨⟨?_, ?_⟩, ⟨HT.q, (Out.drew w n).trans HT.out (fun i hi _ => hi)⟩⟩ <;> simp [World.cell?, World.frozen?, hb1]
    have hlen : l.length + [x].length ≤ 1099511627776 := by simp; omega
    clear h hq hl hm
    have hd : decide (l.length < room) = true := by simpa using HL.out
    rw [hd]
    go_enter Try.func25, Try.ntmps25
    go_wp2_with (first
      | (go_at_call 24; refine HR.out.mono ?_; rintro e w1 ⟨rfl, n, hw1⟩; obtain ⟨a, c, c1, ho, HK⟩ := HA.out n; rw [← hw1] at c1 ho HK; have hsl := sl_one w1 x; have HK' : Hid _ := HK; clear HK HA HR hw1)
      | (at_builtin; refine wpList_append_ow rfl _ _ rfl 0 _ _ _ l [x] rfl ho rfl hsl hlen (Nat.zero_le _) ?_; intro v' w2 g1 g2 g3; obtain ⟨⟨k1, kf⟩, HT⟩ := HK'.out v' w2 g1 g2 g3; obtain ⟨a', c', rfl, -⟩ := g1.shape; clear g1 g2 g3))
    go_ret
    exact ⟨rfl, by rw [HPL.out]; simpa using HT⟩
  · have e0 : (((room - l.length : Nat) : Int) == 0) = true := by simp; omega
    have HPL : Hid (putL room l x = l) := if_neg hl
    have HT : Hid (∀ n, Th N S w (w.drewN n) b room l) := fun n => by
      have h' := hq n
      exact ⟨⟨h'.at_.imp fun v hv => ⟨hv.1, hv.2.1, fun g hg => .inl (hv.2.2 g hg)⟩, h'.len, h'.rm, .inl h'.Sb, fun i hi => h'.inn i (hi.elim id (fun h2 => absurd h2.2 (by simp; omega))), fun i hi => h'.fr i (hi.elim id (fun h2 => absurd h2.2 (by simp; omega)))⟩, Out.drew w n⟩
    have hd : decide (l.length < room) = false := by simpa using hl
    rw [hd]
    clear h hq hl
    go_enter Try.func25, Try.ntmps25
    go_wp2_with (go_at_call 24; refine HR.out.mono ?_; rintro e w1 ⟨rfl, n, hw1⟩)
    go_ret
    exact ⟨rfl, by rw [HPL.out]; first | exact HT.out n | (rw [hw1]; exact HT.out n)⟩

theorem new_any (room : Nat) (w : World) (h1 : 1 ≤ room) (h2 : room ≤ 64) :
    Calls Try.prog 10 #[.int .i64 (room : Int)] w fun e w' => e = .returned (.pointer (some ⟨w.heap.size, 0, none⟩)) ∧ w' = w.alloc (.cells #[.int .i64 (room : Int), .slice none 0 0] 58) := by
  have HB : Hid ((decide (1 ≤ (room : Int)) && decide ((room : Int) ≤ 64)) = true) := by show _ = _; simp; omega
  go_enter Try.func10, Try.ntmps10
  go_wp2_with (go_at_call 33; refine (possible_any _ _).mono ?_; rintro e w1 ⟨rfl, rfl⟩; rw [HB.out])
  go_ret
  exact ⟨rfl, rfl⟩

theorem new_none (room : Int) (w : World) (h : (decide (1 ≤ room) && decide (room ≤ 64)) = false) :
    Calls Try.prog 10 #[.int .i64 room] w fun e w' => e = .returned (.pointer none) ∧ w' = w := by
  have HB : Hid ((decide (1 ≤ room) && decide (room ≤ 64)) = false) := h
  clear h
  go_enter Try.func10, Try.ntmps10
  go_wp2_with (go_at_call 33; refine (possible_any _ _).mono ?_; rintro e w1 ⟨rfl, rfl⟩; rw [HB.out])
  go_ret
  exact ⟨rfl, rfl⟩

theorem new_qu (N room : Nat) (w : World) (hN : N ≤ w.heap.size) (h2 : room ≤ 64) : Qu N (fun i => i = w.heap.size) (w.alloc (.cells #[.int .i64 (room : Int), .slice none 0 0] 58)) w.heap.size room [] :=
  ⟨⟨.slice none 0 0, heap_alloc_new w _, Ow.nil _ _, by simp [Value.ownBlock]⟩, Nat.zero_le _, h2, rfl, by rintro i rfl; simp, by rintro i rfl; exact hN⟩

/-! ### queues of (List UInt8) -/

theorem Sholds_of {w : World} {g : Nat} {cur : Array Value} {e : TypeId} {l : List (List UInt8)} (hb : w.heap[g]? = some (.cells cur e (0, 0))) (ht : cur.toList.take l.length = l.map (encStr)) : Go.Sort.Holds (encStr) w g 0 l.toArray := by
  intro j hj
  simp at hj
  have h5 : cur.toList[j]? = some (encStr l[j]) := by
    have : (cur.toList.take l.length)[j]? = (l.map (encStr))[j]? := by rw [ht]
    rw [List.getElem?_take, if_pos hj, List.getElem?_map] at this
    rw [this, List.getElem?_eq_getElem hj]; rfl
  refine ⟨?_, ?_⟩
  · simp only [World.cell?, hb, Nat.zero_add]
    rw [getElem!_pos _ j (by simpa using hj)]
    simpa using h5
  · simp [World.frozen?, hb]

theorem Sheap_putRow {w : World} {g n : Nat} {cur : Array Value} {e : TypeId} {fr : Nat × Nat} (d : Array (List UInt8)) (hb : w.heap[g]? = some (.cells cur e fr)) :
    (Go.Sort.putRow (encStr) (Go.Sort.ahead w n) g 0 d).heap[g]? = some (.cells (Go.Sort.putCells (encStr) 0 d cur) e fr) := by
  simp [Go.Sort.putRow, Go.Sort.mapBlock, Go.Sort.ahead, Array.getElem?_modify, hb, Go.Sort.onCells]

theorem Sout_putRow {w : World} {g n : Nat} (d : Array (List UInt8)) : Out (fun i => i = g) w (Go.Sort.putRow (encStr) (Go.Sort.ahead w n) g 0 d) := by
  refine ⟨rfl, rfl, rfl, by simp [Go.Sort.putRow, Go.Sort.mapBlock, Go.Sort.ahead], fun i _ hi => ?_⟩
  simp only [Go.Sort.putRow, Go.Sort.mapBlock, Go.Sort.ahead, Array.getElem?_modify]
  rw [if_neg (fun e => hi (Eq.symm e))]

theorem Stake_put (cur : Array Value) (l : List (List UInt8)) (x : (List UInt8)) (h : l.length + 1 ≤ cur.size) : (Go.Sort.putCells (encStr) 0 (l ++ [x]).toArray cur).toList.take l.length = l.map (encStr) := by
  apply List.ext_getElem?
  intro i
  rw [List.getElem?_take]
  by_cases hi : i < l.length
  · rw [if_pos hi, List.getElem?_map, List.getElem?_eq_getElem hi]
    simp only [Go.Sort.putCells, Array.getElem?_toList, Array.getElem?_mapIdx]
    rw [Array.getElem?_eq_getElem (by omega)]
    simp only [Option.map_some]
    rw [if_pos ⟨by omega, by simp; omega⟩, getElem!_pos _ _ (by simp; omega)]
    simp [List.getElem_append_left hi]
  · rw [if_neg hi, List.getElem?_eq_none (by simpa using hi)]

set_option maxRecDepth 100000 in
/-- slices.Delete of the first one. -/
theorem Sdelete_any (v : Value) (x : (List UInt8)) (l : List (List UInt8)) (w : World) (h : SOw 0 w v (x :: l)) :
    Calls Try.prog 48 #[v, .int .i64 0, .int .i64 1] w fun e w' => ∃ v', e = .returned v' ∧ SOw 0 w' v' l ∧ Out (fun i => v.ownBlock = some i) w w' ∧ v'.ownBlock = v.ownBlock ∧ w'.heap.size = w.heap.size := by
  rcases h.2 with ⟨rfl, h2⟩ | ⟨g, cap, cur, rfl, hg, hb, hc, hm, hs, ht⟩
  · simp at h2
  · simp only [Nat.mul_one] at ht hs
    have H := Any.slices_Delete_string Try.laysNm224 g 0 cap 0 1 (x :: l) w (Sholds_of hb ht) hc (by unfold maxLen at hm; omega) (by omega) (by simp)
    refine H.mono ?_
    rintro e w' ⟨rfl, q, rfl⟩
    have hd : (List.take 0 (x :: l) ++ List.drop 1 (x :: l) ++ List.replicate (1 - 0) []).toArray = (l ++ [[]]).toArray := by simp
    rw [hd]
    have hc' : l.length + 1 ≤ cap := by simpa using hc
    refine ⟨_, rfl, ⟨by simp, .inr ⟨g, cap, _, by simp, hg, Sheap_putRow _ hb, by omega, hm, ?_, ?_⟩⟩, (Sout_putRow _).mono (fun i hi => by simp [Value.ownBlock, hi]), rfl, by simp [Go.Sort.putRow, Go.Sort.mapBlock, Go.Sort.ahead]⟩
    · simpa [Go.Sort.putCells] using hs
    · rw [Nat.mul_one]
      exact Stake_put cur l [] (by omega)

/-- Block b holds a queue; its blocks lie in S, from N on. -/
structure SQu (N : Nat) (S : Nat → Prop) (w : World) (b room : Nat) (l : List (List UInt8)) : Prop where
  at_ : ∃ v, w.heap[b]? = some (.cells #[.int .i64 (room : Int), v] 78 (0, 0)) ∧ SOw 0 w v l ∧ ∀ g, v.ownBlock = some g → S g
  len : l.length ≤ room
  rm : room ≤ 64
  Sb : S b
  inn : ∀ i, S i → i < w.heap.size
  fr : ∀ i, S i → N ≤ i

/-- Behind a call the queue holds l; nothing else has turned. -/
structure STh (N : Nat) (S : Nat → Prop) (w w' : World) (b room : Nat) (l : List (List UInt8)) : Prop where
  q : SQu N (grew S w w') w' b room l
  out : Out S w w'

theorem SQu.out {N : Nat} {S X : Nat → Prop} {w w' : World} {b room : Nat} {l : List (List UInt8)} (h : SQu N S w b room l) (hO : Out X w w') (hx : ∀ i, S i → ¬ X i) : SQu N S w' b room l := by
  obtain ⟨v, hv, ho, hs⟩ := h.at_
  exact ⟨⟨v, (hO.block b (h.inn _ h.Sb) (hx _ h.Sb)).trans hv, ho.out hO (fun g hg => hx _ (hs g hg)), hs⟩, h.len, h.rm, h.Sb, fun i hi => Nat.lt_of_lt_of_le (h.inn i hi) hO.size, h.fr⟩
theorem SQu.below {N : Nat} {S : Nat → Prop} {w w' : World} {b room : Nat} {l : List (List UInt8)} (h : SQu N S w b room l) (hB : Below w.heap.size w w') : SQu N S w' b room l :=
  h.out (X := fun _ => False) (Out.of_below hB) (fun _ _ hf => hf)
theorem STh.bel {N : Nat} {S : Nat → Prop} {w w' : World} {b room : Nat} {l : List (List UInt8)} (h : STh N S w w' b room l) (hN : N ≤ w.heap.size) : Below N w w' :=
  h.out.below hN (fun i hi => h.q.fr i (.inl hi))

theorem SQu.cells {N : Nat} {S : Nat → Prop} {w : World} {b room : Nat} {l : List (List UInt8)} (h : SQu N S w b room l) :
    ∃ a c, (w.cell? ⟨b, 0, none⟩ = some (.int .i64 (room : Int)) ∧ w.cell? ⟨b, 1, none⟩ = some (.slice a l.length c) ∧ w.frozen? ⟨b, 1, none⟩ = false) ∧ SOw 0 w (.slice a l.length c) l ∧ (∀ g, (Value.slice a l.length c).ownBlock = some g → S g) ∧ w.heap[b]? = some (.cells #[.int .i64 (room : Int), .slice a l.length c] 78 (0, 0)) := by
  obtain ⟨v, hv, ho, hs⟩ := h.at_
  obtain ⟨a, c, rfl, -⟩ := ho.shape
  refine ⟨a, c, ⟨?_, ?_, ?_⟩, ho, hs, hv⟩ <;> simp [World.cell?, World.frozen?, hv]

/-- The row has turned, and the struct tells it. -/
theorem SQu.turn {N : Nat} {S : Nat → Prop} {w w1 : World} {b room : Nat} {l l' : List (List UInt8)} {v v' : Value} (h : SQu N S w b room l) (hN : N ≤ w.heap.size) (hb : w.heap[b]? = some (.cells #[.int .i64 (room : Int), v] 78 (0, 0))) (ho : SOw 0 w v l) (hvS : ∀ g, v.ownBlock = some g → S g)
    (hO : Out (fun i => v.ownBlock = some i) w w1) (hv' : SOw 0 w1 v' l') (hg : v'.ownBlock = v.ownBlock ∨ (∀ g, v'.ownBlock = some g → w.heap.size ≤ g)) (hl : l'.length ≤ room) : STh N S w (w1.setCell ⟨b, 1, none⟩ v') b room l' := by
  have hne : v.ownBlock ≠ some b := ho.not_at hb (by decide)
  have hb1 : w1.heap[b]? = some (.cells #[.int .i64 (room : Int), v] 78 (0, 0)) := (hO.block b (h.inn _ h.Sb) hne).trans hb
  have hO1 : Out S w w1 := hO.mono (fun i hi => hvS i hi)
  have hO2 : Out S w (w1.setCell ⟨b, 1, none⟩ v') := hO1.put h.Sb
  refine ⟨⟨⟨v', by simpa using heap_set hb1 1 v', ?_, ?_⟩, hl, h.rm, .inl h.Sb, ?_, ?_⟩, hO2⟩
  · exact hv'.out (X := fun i => i = b) (Out.set rfl) (fun g hg' e => by subst e; exact hv'.not_at hb1 (by decide) hg')
  · intro g hg'
    rcases hg with e | e
    · exact .inl (hvS g (e ▸ hg'))
    · exact .inr ⟨e g hg', by rw [size_set]; exact (hv'.lt hg').2⟩
  · rintro i (hi | hi)
    · exact Nat.lt_of_lt_of_le (h.inn i hi) hO2.size
    · exact hi.2
  · rintro i (hi | hi)
    · exact h.fr i hi
    · omega

theorem Speek_any {N : Nat} {S : Nat → Prop} {w : World} {b room : Nat} {l : List (List UInt8)} (h : SQu N S w b room l) :
    Calls Try.prog 47 #[.pointer (some ⟨b, 0, none⟩)] w fun e w' => e = .returned (.tuple #[encStr (l.headD []), .bool (!l.isEmpty)]) ∧ w' = w := by
  obtain ⟨a, c, ⟨c0, c1, -⟩, ho, -, -⟩ := h.cells
  clear h
  cases l with
  | nil =>
    clear ho
    simp only [List.length_nil] at c1
    go_enter Try.func47, Try.ntmps47
    go_wp2
    go_ret2
    exact ⟨rfl, rfl⟩
  | cons x t =>
    obtain ⟨a', cap, hv, -, -, hc⟩ := ho.sl (Nat.le_refl _)
    cases hv
    obtain ⟨g, off, rfl, -, hc⟩ := hc.resolve_left (by simp)
    have k0 := hc 0 (by simp)
    simp only [Nat.add_zero, List.getElem?_cons_zero, Option.getD_some] at k0
    have hl : 0 < (x :: t).length := by simp
    have e1 : (((x :: t).length : Int) == 0) = false := by simp; omega
    clear hc ho
    generalize (x :: t).length = n at *
    go_enter Try.func47, Try.ntmps47
    go_wp2
    go_ret2
    exact ⟨rfl, rfl⟩

theorem Sroom_any {N : Nat} {S : Nat → Prop} {w : World} {b room : Nat} {l : List (List UInt8)} (h : SQu N S w b room l) :
    Calls Try.prog 46 #[.pointer (some ⟨b, 0, none⟩)] w fun e w' => e = .returned (.int .i64 ((room - l.length : Nat) : Int)) ∧ ∃ n, w' = w.drewN n := by
  obtain ⟨a, c, ⟨c0, c1, -⟩, -, -, -⟩ := h.cells
  have hl := h.len
  have hr := h.rm
  have HE : Hid (((room - l.length : Nat) : Int) = (room : Int) - (l.length : Int)) := by show _ = _; omega
  rw [HE.out]
  clear h
  have hw : IntKind.i64.wrap ((room : Int) - (l.length : Int)) = (room : Int) - (l.length : Int) := by rw [IntKind.wrap_i64]; omega
  generalize l.length = n at *
  go_enter Try.func46, Try.ntmps46
  go_wp2
  go_quiet (fail)
  go_wp2
  go_ret
  exact ⟨rfl, _, rfl⟩

set_option maxRecDepth 100000 in
theorem Stake_any {N : Nat} {S : Nat → Prop} {w : World} {b room : Nat} {l : List (List UInt8)} (h : SQu N S w b room l) (hN : N ≤ w.heap.size) :
    Calls Try.prog 44 #[.pointer (some ⟨b, 0, none⟩)] w fun e w' => e = .returned (.tuple #[encStr (l.headD []), .bool (!l.isEmpty)]) ∧ STh N S w w' b room l.tail := by
  obtain ⟨a, c, ⟨c0, c1, f1⟩, ho, hS, hb⟩ := h.cells
  have HP : Hid (Calls Try.prog 47 #[.pointer (some ⟨b, 0, none⟩)] w fun e w' => e = .returned (.tuple #[encStr (l.headD []), .bool (!l.isEmpty)]) ∧ w' = w) := Speek_any h
  cases l with
  | nil =>
    have HT : Hid (STh N S w w b room []) := ⟨⟨h.at_.imp fun v hv => ⟨hv.1, hv.2.1, fun g hg => .inl (hv.2.2 g hg)⟩, h.len, h.rm, .inl h.Sb, fun i hi => h.inn i (grew_refl hi), fun i hi => h.fr i (grew_refl hi)⟩, Out.refl _ _⟩
    clear h ho hS hb
    go_enter Try.func44, Try.ntmps44
    go_wp2_with (go_at_call 47; refine HP.out.mono ?_; rintro e w1 ⟨rfl, rfl⟩)
    go_ret2
    exact ⟨rfl, HT.out⟩
  | cons x t =>
    have HD := Sdelete_any _ x t w ho
    have HT : Hid (∀ w1 v', SOw 0 w1 v' t → Out (fun i => (Value.slice a (x :: t).length c).ownBlock = some i) w w1 → v'.ownBlock = (Value.slice a (x :: t).length c).ownBlock → STh N S w (w1.setCell ⟨b, 1, none⟩ v') b room t) := fun w1 v' h1 h2 h3 => h.turn hN hb ho hS h2 h1 (.inl h3) (by have := h.len; simp at this; omega)
    have HF : Hid (∀ w1, Out (fun i => (Value.slice a (x :: t).length c).ownBlock = some i) w w1 → w1.cell? ⟨b, 1, none⟩ = some (.slice a (x :: t).length c) ∧ w1.frozen? ⟨b, 1, none⟩ = false) := fun w1 hO => by
      have hne : (Value.slice a (x :: t).length c).ownBlock ≠ some b := ho.not_at hb (by decide)
      have hb1 := (hO.block b (h.inn _ h.Sb) hne).trans hb
      refine ⟨?_, ?_⟩ <;> simp [World.cell?, World.frozen?, hb1]
    generalize (x :: t).length = n at *
    clear h ho hS hb
    go_enter Try.func44, Try.ntmps44
    go_wp2_with (first
      | (go_at_call 47; refine HP.out.mono ?_; rintro e w1 ⟨rfl, rfl⟩)
      | (go_at_call 48; refine HD.mono ?_; rintro e w1 ⟨v', rfl, g1, g2, g3, -⟩; obtain ⟨k1, kf⟩ := HF.out w1 g2; have HW := HT.out w1 v' g1 g2 g3; obtain ⟨a', c', rfl, -⟩ := g1.shape; clear g1 g2 g3))
    go_ret2
    exact ⟨rfl, HW⟩

/-- What a queue holds behind a Put. -/
def SputL (room : Nat) (l : List (List UInt8)) (x : (List UInt8)) : List (List UInt8) := if l.length < room then l ++ [x] else l

set_option maxRecDepth 100000 in
theorem Sput_any {N : Nat} {S : Nat → Prop} {w : World} {b room : Nat} {l : List (List UInt8)} (h : SQu N S w b room l) (hN : N ≤ w.heap.size) (x : (List UInt8)) :
    Calls Try.prog 43 #[.pointer (some ⟨b, 0, none⟩), encStr x] w fun e w' => e = .returned (.bool (decide (l.length < room))) ∧ STh N S w w' b room (SputL room l x) := by
  have HR : Hid (Calls Try.prog 46 #[.pointer (some ⟨b, 0, none⟩)] w fun e w' => e = .returned (.int .i64 ((room - l.length : Nat) : Int)) ∧ ∃ n, w' = w.drewN n) := Sroom_any h
  have hq : ∀ n, SQu N S (w.drewN n) b room l := fun n => h.out (X := fun _ => False) (Out.drew w n) (fun _ _ hf => hf)
  by_cases hl : l.length < room
  · have e0 : (((room - l.length : Nat) : Int) == 0) = false := by simp; omega
    have HL : Hid (l.length < room) := hl
    have HPL : Hid (SputL room l x = l ++ [x]) := if_pos hl
    have hm := h.rm
    have HA : Hid (∀ n, ∃ a c, ((w.drewN n).cell? ⟨b, 1, none⟩ = some (.slice a l.length c)) ∧ SOw 0 ((w.drewN n).alloc (.cells #[encStr x] 9)) (.slice a l.length c) l ∧ ∀ v' w2, SOw 0 w2 v' (l ++ [x]) → ((w.drewN n).alloc (.cells #[encStr x] 9)).grownBy w2 (Value.slice a l.length c).ownBlock → (v'.ownBlock = (Value.slice a l.length c).ownBlock ∨ v'.ownBlock = some ((w.drewN n).alloc (.cells #[encStr x] 9)).heap.size) → (w2.cell? ⟨b, 1, none⟩ = some (.slice a l.length c) ∧ w2.frozen? ⟨b, 1, none⟩ = false) ∧ STh N S w (w2.setCell ⟨b, 1, none⟩ v') b room (l ++ [x])) := fun n => by
      obtain ⟨a, c, ⟨c0, c1, f1⟩, ho, hS, hb⟩ := (hq n).cells
      refine ⟨a, c, c1, ho.alloc _, fun v' w2 h1 h2 h3 => ?_⟩
      have hOa : Out (fun i => (Value.slice a l.length c).ownBlock = some i) (w.drewN n) w2 := (Out.grown (World.grownBy_alloc (w.drewN n) (.cells #[encStr x] 9) none) (fun j hj => by cases hj)).trans (Out.grown h2 (X := fun i => (Value.slice a l.length c).ownBlock = some i) (fun j hj => hj)) (fun i hi _ => hi)
      have hne : (Value.slice a l.length c).ownBlock ≠ some b := ho.not_at hb (by decide)
      have hb1 := (hOa.block b ((hq n).inn _ (hq n).Sb) hne).trans hb
      have HT := (hq n).turn hN hb ho hS hOa h1 (h3.imp id (fun e g hg => by rw [e] at hg; cases hg; simp)) (by simp; omega)
      refine ⟨⟨?_, ?_⟩, ⟨HT.q, (Out.drew w n).trans HT.out (fun i hi _ => hi)⟩⟩ <;> simp [World.cell?, World.frozen?, hb1]
    have hlen : l.length + [x].length ≤ 1099511627776 := by simp; omega
    clear h hq hl hm
    have hd : decide (l.length < room) = true := by simpa using HL.out
    rw [hd]
    go_enter Try.func43, Try.ntmps43
    go_wp2_with (first
      | (go_at_call 46; refine HR.out.mono ?_; rintro e w1 ⟨rfl, n, hw1⟩; obtain ⟨a, c, c1, ho, HK⟩ := HA.out n; rw [← hw1] at c1 ho HK; have hsl := Ssl_one w1 x; have HK' : Hid _ := HK; clear HK HA HR hw1)
      | (at_builtin; refine SwpList_append_ow rfl _ _ rfl 0 _ _ _ l [x] rfl ho rfl hsl hlen (Nat.zero_le _) ?_; intro v' w2 g1 g2 g3; obtain ⟨⟨k1, kf⟩, HT⟩ := HK'.out v' w2 g1 g2 g3; obtain ⟨a', c', rfl, -⟩ := g1.shape; clear g1 g2 g3))
    go_ret
    exact ⟨rfl, by rw [HPL.out]; simpa using HT⟩
  · have e0 : (((room - l.length : Nat) : Int) == 0) = true := by simp; omega
    have HPL : Hid (SputL room l x = l) := if_neg hl
    have HT : Hid (∀ n, STh N S w (w.drewN n) b room l) := fun n => by
      have h' := hq n
      exact ⟨⟨h'.at_.imp fun v hv => ⟨hv.1, hv.2.1, fun g hg => .inl (hv.2.2 g hg)⟩, h'.len, h'.rm, .inl h'.Sb, fun i hi => h'.inn i (hi.elim id (fun h2 => absurd h2.2 (by simp; omega))), fun i hi => h'.fr i (hi.elim id (fun h2 => absurd h2.2 (by simp; omega)))⟩, Out.drew w n⟩
    have hd : decide (l.length < room) = false := by simpa using hl
    rw [hd]
    clear h hq hl
    go_enter Try.func43, Try.ntmps43
    go_wp2_with (go_at_call 46; refine HR.out.mono ?_; rintro e w1 ⟨rfl, n, hw1⟩)
    go_ret
    exact ⟨rfl, by rw [HPL.out]; first | exact HT.out n | (rw [hw1]; exact HT.out n)⟩

theorem Snew_any (room : Nat) (w : World) (h1 : 1 ≤ room) (h2 : room ≤ 64) :
    Calls Try.prog 41 #[.int .i64 (room : Int)] w fun e w' => e = .returned (.pointer (some ⟨w.heap.size, 0, none⟩)) ∧ w' = w.alloc (.cells #[.int .i64 (room : Int), .slice none 0 0] 78) := by
  have HB : Hid ((decide (1 ≤ (room : Int)) && decide ((room : Int) ≤ 64)) = true) := by show _ = _; simp; omega
  go_enter Try.func41, Try.ntmps41
  go_wp2_with (go_at_call 33; refine (possible_any _ _).mono ?_; rintro e w1 ⟨rfl, rfl⟩; rw [HB.out])
  go_ret
  exact ⟨rfl, rfl⟩

theorem Snew_none (room : Int) (w : World) (h : (decide (1 ≤ room) && decide (room ≤ 64)) = false) :
    Calls Try.prog 41 #[.int .i64 room] w fun e w' => e = .returned (.pointer none) ∧ w' = w := by
  have HB : Hid ((decide (1 ≤ room) && decide (room ≤ 64)) = false) := h
  clear h
  go_enter Try.func41, Try.ntmps41
  go_wp2_with (go_at_call 33; refine (possible_any _ _).mono ?_; rintro e w1 ⟨rfl, rfl⟩; rw [HB.out])
  go_ret
  exact ⟨rfl, rfl⟩

theorem Snew_qu (N room : Nat) (w : World) (hN : N ≤ w.heap.size) (h2 : room ≤ 64) : SQu N (fun i => i = w.heap.size) (w.alloc (.cells #[.int .i64 (room : Int), .slice none 0 0] 78)) w.heap.size room [] :=
  ⟨⟨.slice none 0 0, heap_alloc_new w _, SOw.nil _ _, by simp [Value.ownBlock]⟩, Nat.zero_le _, h2, rfl, by rintro i rfl; simp, by rintro i rfl; exact hN⟩

end Go.Proofs.Ythaoobfldponpaa
