/-
  A disk in memory: the block of the struct, the map, the files' blocks and their bytes; what lies outside stays. The walk's laws on a disk's map and struct; the leaves: ofName, isName, New, Has, fails, Down, Arm. The operations of a disk on plain lists; how they and the lists in memory go together.
-/
import Derived.Test.YtnahghldlkjleaaGreatDoorBas
import Derived.Maps.Range
import Derived.Sort.KeysCollected
namespace Go.Proofs.YtnahghldlkjleaaGreatDoor
open Go.RowKit

/-! ### what may turn -/
/-- Blocks outside X are as they were. -/
structure Out (X : Nat → Prop) (w w' : World) : Prop where
  os : w'.os = w.os
  tape : w'.tape = w.tape
  output : w'.output = w.output
  size : w.heap.size ≤ w'.heap.size
  block : ∀ i, i < w.heap.size → ¬ X i → w'.heap[i]? = w.heap[i]?

/-- The blocks of X, and those that are new. -/
def grew (X : Nat → Prop) (w w' : World) : Nat → Prop := fun i => X i ∨ (w.heap.size ≤ i ∧ i < w'.heap.size)

theorem Out.refl (X : Nat → Prop) (w : World) : Out X w w := ⟨rfl, rfl, rfl, Nat.le_refl _, fun _ _ _ => rfl⟩
theorem Out.trans {X Y : Nat → Prop} {a b c : World} (h : Out X a b) (k : Out Y b c) (hY : ∀ i, Y i → i < a.heap.size → X i) : Out X a c :=
  ⟨k.os.trans h.os, k.tape.trans h.tape, k.output.trans h.output, Nat.le_trans h.size k.size, fun i hi hx => (k.block i (Nat.lt_of_lt_of_le hi h.size) (fun hy => hx (hY i hy hi))).trans (h.block i hi hx)⟩
theorem Out.mono {X Y : Nat → Prop} {a b : World} (h : Out X a b) (hX : ∀ i, X i → Y i) : Out Y a b := ⟨h.os, h.tape, h.output, h.size, fun i hi hy => h.block i hi (fun hx => hy (hX i hx))⟩
theorem Out.grown {X : Nat → Prop} {a b : World} {row : Option Nat} (h : a.grownBy b row) (hr : ∀ j, row = some j → X j) : Out X a b :=
  ⟨h.os, h.tape, h.output, h.size, fun i hi hx => h.block i hi (fun e => hx (hr i e.symm))⟩
theorem Out.of_below {X : Nat → Prop} {a b : World} (h : Below a.heap.size a b) : Out X a b := ⟨h.os, h.tape, h.output, h.size, fun i hi _ => h.block i hi⟩
theorem Out.below {X : Nat → Prop} {a b : World} {N : Nat} (h : Out X a b) (hN : N ≤ a.heap.size) (hX : ∀ i, X i → N ≤ i) : Below N a b :=
  ⟨h.os, h.tape, h.output, h.size, fun i hi => h.block i (by omega) (fun hx => by have := hX i hx; omega)⟩
theorem Out.set {X : Nat → Prop} {w : World} {b o : Nat} {u : Value} (hb : X b) : Out X w (w.setCell ⟨b, o, none⟩ u) :=
  ⟨rfl, rfl, rfl, by simp [World.setCell], fun i _ hx => Below.heap_setCell _ _ _ _ (fun e => hx (by rw [e]; exact hb))⟩
theorem Out.step {X : Nat → Prop} {a b c : World} (h : Out X a b) (k : Out (grew X a b) b c) : Out X a c :=
  h.trans k (fun i hi hl => hi.elim id (fun h2 => absurd h2.1 (by omega)))
theorem grew_refl {X : Nat → Prop} {w : World} {i : Nat} (h : grew X w w i) : X i := h.elim id (fun h2 => absurd h2.2 (by omega))
theorem grew_mono {X : Nat → Prop} {w a b : World} (h : a.heap.size ≤ b.heap.size) {i : Nat} (hi : grew X w a i) : grew X w b i := hi.imp id (fun h2 => ⟨h2.1, by omega⟩)

theorem Ow.out {X : Nat → Prop} {N : Nat} {w w' : World} {v : Value} {l : List UInt8} (h : Ow N w v l) (hO : Out X w w') (hx : ∀ g, v.ownBlock = some g → ¬ X g) : Ow N w' v l := by
  refine ⟨h.1, ?_⟩
  rcases h.2 with h2 | ⟨g, cap, cur, rfl, hg, hb, r⟩
  · exact .inl h2
  · exact .inr ⟨g, cap, cur, rfl, hg, (hO.block g (Array.getElem?_eq_some_iff.1 hb).1 (hx g rfl)).trans hb, r⟩
theorem ownsMap_out {X : Nat → Prop} {w w' : World} {k : TypeId} {R : Value → Option (DataW Unit × List MemPlace)} {b n : Nat} {D : DataW Unit} (h : w.ownsMap Tryz.prog k R b n D) (hO : Out X w w') (hx : ¬ X b) : w'.ownsMap Tryz.prog k R b n D := by
  have hlt := h.lt
  obtain ⟨es, clock, hb, r⟩ := h
  exact ⟨es, clock, (hO.block b hlt hx).trans hb, r⟩
theorem ownsMap_tight {w : World} {k : TypeId} {R : Value → Option (DataW Unit × List MemPlace)} {b n : Nat} {es : List (Lit × DataW Unit)} (h : w.ownsMap Tryz.prog k R b n (.map es)) : w.ownsMap Tryz.prog k R b es.length (.map es) := by
  obtain ⟨e, clock, hb, F, hs, hD⟩ := h
  refine ⟨e, clock, hb, F, ?_, hD⟩
  have := congrArg Maps.size hD
  simp only [Maps.size_eq, length_sorted] at this
  simp at this
  omega

/-! ### the disk in plain lists -/
/-- A file: its name, its bytes, how many are durable, whether it was appended to last. -/
structure PF where
  nm : List UInt8
  dat : List UInt8
  syn : Nat
  late : Bool
/-- A disk. -/
structure PD where
  fs : List PF
  arm : Nat
  dn : Bool

/-- A file in memory: its block, the slice of its bytes. -/
structure Rw where
  nm : List UInt8
  b : Nat
  v : Value
  dat : List UInt8
  syn : Nat
structure DS where
  m : Nat
  rs : List Rw
  last : Option Nat
  arm : Nat
  dn : Bool

def Rw.pf (last : Option Nat) (r : Rw) : PF := ⟨r.nm, r.dat, r.syn, last == some r.b⟩
def DS.pd (k : DS) : PD := ⟨k.rs.map (Rw.pf k.last), k.arm, k.dn⟩
def Rw.ent (r : Rw) : Lit × DataW Unit := (.string r.nm, .lit (.int .i64 (r.b : Int)))
def ptrV : Option Nat → Value
  | none => .pointer none
  | some b => .pointer (some ⟨b, 0, none⟩)
/-- How a pointer to a file reads: by its block. -/
def ptrElem : Value → Option (DataW Unit × List MemPlace)
  | .pointer none => some (.nil, [])
  | .pointer (some ⟨b, 0, none⟩) => some (.lit (.int .i64 (b : Int)), [])
  | _ => none
theorem ptrElem_inv {v : Value} {y : DataW Unit × List MemPlace} (h : ptrElem v = some y) : ∃ c : Option Nat, v = ptrV c := by
  unfold ptrElem at h
  split at h
  · exact ⟨none, rfl⟩
  · exact ⟨some _, rfl⟩
  · cases h
theorem ptrElem_at {v : Value} {b : Nat} {ps : List MemPlace} (h : ptrElem v = some (.lit (.int .i64 (b : Int)), ps)) : v = .pointer (some ⟨b, 0, none⟩) := by
  unfold ptrElem at h
  split at h
  · simp at h
  · rename_i b'
    simp at h
    obtain ⟨h, _⟩ := h
    have : b' = b := by omega
    rw [this]
  · cases h
theorem ptrElem_nil {v : Value} {ps : List MemPlace} (h : ptrElem v = some (.nil, ps)) : v = .pointer none := by
  unfold ptrElem at h
  split at h
  · rfl
  · simp at h
  · cases h

def sumLen (rs : List Rw) : Nat := (rs.map fun r => r.dat.length).sum
/-- No two files share a block. -/
def Apart (r q : Rw) : Prop := r.b ≠ q.b ∧ ∀ g, r.v.ownBlock = some g → q.v.ownBlock ≠ some g
def look (nm : List UInt8) (rs : List Rw) : Option Rw := rs.find? (fun r => r.nm == nm)
def delR (nm : List UInt8) (rs : List Rw) : List Rw := rs.filter (fun r => !(r.nm == nm))
def insR (r : Rw) : List Rw → List Rw
  | [] => [r]
  | y :: q => if bytesBefore r.nm y.nm then r :: y :: q else y :: insR r q
def repl (r : Rw) (q : Rw) : Rw := if q.b = r.b then r else q

theorem has_ents (rs : List Rw) (nm : List UInt8) : Maps.has (.map (rs.map Rw.ent)) (.string nm) = (look nm rs).isSome := by
  rw [Maps.has_eq, look, List.any_map]
  induction rs with
  | nil => rfl
  | cons r q ih =>
    simp only [List.any_cons, List.find?_cons, Function.comp, Rw.ent, Lit.sameKey]
    cases h : r.nm == nm
    · simpa [Function.comp, Rw.ent, Lit.sameKey] using ih
    · simp
theorem atKey_ents (rs : List Rw) (nm : List UInt8) (zd : DataW Unit) : (DataW.map (rs.map Rw.ent)).atKey (.string nm) zd = match look nm rs with | some r => .lit (.int .i64 (r.b : Int)) | none => zd := by
  unfold DataW.atKey look
  induction rs with
  | nil => rfl
  | cons r q ih =>
    simp only [List.map_cons, List.find?_cons, Rw.ent, Lit.sameKey]
    cases h : r.nm == nm
    · simpa [Rw.ent, Lit.sameKey] using ih
    · rfl
theorem del_ents (rs : List Rw) (nm : List UInt8) : (DataW.map (rs.map Rw.ent)).del (.string nm) = .map ((delR nm rs).map Rw.ent) := by
  unfold DataW.del delR
  simp only [List.filter_map]
  rfl
theorem insert_ents (r : Rw) (rs : List Rw) : DataW.insert r.ent (rs.map Rw.ent) = (insR r rs).map Rw.ent := by
  induction rs with
  | nil => rfl
  | cons y q ih =>
    simp only [List.map_cons, insR, DataW.insert]
    by_cases h : bytesBefore r.nm y.nm
    · rw [if_pos h, if_pos (by simpa [Rw.ent, Lit.before] using h)]; rfl
    · rw [if_neg h, if_neg (by simpa [Rw.ent, Lit.before] using h), ih]; rfl
theorem put_ents (rs : List Rw) (r : Rw) : (DataW.map (rs.map Rw.ent)).put (.string r.nm) (.lit (.int .i64 (r.b : Int))) = .map ((insR r (delR r.nm rs)).map Rw.ent) := by
  rw [← insert_ents]
  unfold DataW.put delR
  simp only [List.filter_map]
  rfl
theorem mem_insR {x r : Rw} {rs : List Rw} : x ∈ insR r rs ↔ x = r ∨ x ∈ rs := by
  induction rs with
  | nil => simp [insR]
  | cons y q ih =>
    unfold insR
    split
    · simp
    · simp only [List.mem_cons, ih]
      constructor
      · rintro (h | h | h) <;> simp [h]
      · rintro (h | h | h) <;> simp [h]
theorem len_insR {r : Rw} {rs : List Rw} : (insR r rs).length = rs.length + 1 := by
  induction rs with
  | nil => rfl
  | cons y q ih => unfold insR; split <;> simp [ih]
theorem sum_insR {r : Rw} {rs : List Rw} : sumLen (insR r rs) = r.dat.length + sumLen rs := by
  induction rs with
  | nil => rfl
  | cons y q ih =>
    unfold insR
    split
    · simp [sumLen]
    · simp only [sumLen, List.map_cons, List.sum_cons] at *
      omega
theorem look_some {nm : List UInt8} {rs : List Rw} {r : Rw} (h : look nm rs = some r) : r ∈ rs ∧ r.nm = nm :=
  ⟨List.mem_of_find?_eq_some h, by simpa using List.find?_some h⟩
theorem len_delR (nm : List UInt8) (rs : List Rw) : (delR nm rs).length ≤ rs.length := List.length_filter_le _ _
theorem mem_delR {nm : List UInt8} {rs : List Rw} {x : Rw} : x ∈ delR nm rs ↔ x ∈ rs ∧ x.nm ≠ nm := by simp [delR]
theorem sum_delR (nm : List UInt8) (rs : List Rw) : sumLen (delR nm rs) ≤ sumLen rs := by
  induction rs with
  | nil => simp [delR, sumLen]
  | cons y q ih =>
    unfold delR sumLen at *
    by_cases h : y.nm == nm <;> simp [h] <;> omega

/-- A file lies in memory. -/
structure FileAt (w : World) (r : Rw) : Prop where
  cell : w.heap[r.b]? = some (.cells #[r.v, .int .i64 (r.syn : Int)] 105 (0, 0))
  own : Ow 0 w r.v r.dat
  syn : r.syn ≤ r.dat.length
  nm : r.nm.length ≤ 32

theorem FileAt.out {X : Nat → Prop} {w w' : World} {r : Rw} (h : FileAt w r) (hO : Out X w w') (h1 : ¬ X r.b) (h2 : ∀ g, r.v.ownBlock = some g → ¬ X g) : FileAt w' r :=
  ⟨(hO.block _ (Array.getElem?_eq_some_iff.1 h.cell).1 h1).trans h.cell, h.own.out hO h2, h.syn, h.nm⟩

/-- Block d holds a disk; its blocks lie in S. -/
structure DkC (S : Nat → Prop) (w : World) (d : Nat) (k : DS) : Prop where
  hd : w.heap[d]? = some (.cells #[.map (some k.m), ptrV k.last, .int .i64 (k.arm : Int), .bool k.dn] 101 (0, 0))
  hm : w.ownsMap Tryz.prog 9 ptrElem k.m k.rs.length (.map (k.rs.map Rw.ent))
  fs : ∀ r ∈ k.rs, FileAt w r
  ap : k.rs.Pairwise Apart
  la : ∀ b, k.last = some b → ∃ r ∈ k.rs, r.b = b
  few : k.rs.length ≤ 256
  all : sumLen k.rs ≤ 16777216
  arm : k.arm < 9223372036854775808
  Sd : S d
  Sm : S k.m
  Sf : ∀ r ∈ k.rs, S r.b ∧ ∀ g, r.v.ownBlock = some g → S g
  inn : ∀ i, S i → i < w.heap.size

theorem DkC.mono {S T : Nat → Prop} {w : World} {d : Nat} {k : DS} (h : DkC S w d k) (hT : ∀ i, S i → T i) (hi : ∀ i, T i → i < w.heap.size) : DkC T w d k :=
  ⟨h.hd, h.hm, h.fs, h.ap, h.la, h.few, h.all, h.arm, hT _ h.Sd, hT _ h.Sm, fun r hr => ⟨hT _ (h.Sf r hr).1, fun g hg => hT _ ((h.Sf r hr).2 g hg)⟩, hi⟩

/-- Nothing of the disk's has turned. -/
theorem DkC.out {S X : Nat → Prop} {w w' : World} {d : Nat} {k : DS} (h : DkC S w d k) (hO : Out X w w') (hx : ∀ i, S i → ¬ X i) : DkC S w' d k :=
  ⟨(hO.block d (h.inn _ h.Sd) (hx _ h.Sd)).trans h.hd, ownsMap_out h.hm hO (hx _ h.Sm), fun r hr => (h.fs r hr).out hO (hx _ (h.Sf r hr).1) (fun g hg => hx _ ((h.Sf r hr).2 g hg)), h.ap, h.la, h.few, h.all, h.arm, h.Sd, h.Sm, h.Sf, fun i hi => Nat.lt_of_lt_of_le (h.inn i hi) hO.size⟩

theorem DkC.ne_m {S : Nat → Prop} {w : World} {d : Nat} {k : DS} (h : DkC S w d k) : k.m ≠ d := fun e => by
  obtain ⟨es, clock, hb, _⟩ := h.hm
  rw [e, h.hd] at hb; cases hb
theorem FileAt.ne {w : World} {r : Rw} (h : FileAt w r) {j : Nat} {o : Obj} (hj : w.heap[j]? = some o) (ho : ∀ c z, o ≠ .cells c 105 z) : r.b ≠ j := fun e => by
  have := h.cell
  rw [e, hj] at this
  simp at this
  exact ho _ _ this
theorem FileAt.ne2 {w : World} {r : Rw} (h : FileAt w r) {j : Nat} {o : Obj} (hj : w.heap[j]? = some o) (ho : ∀ c z, o ≠ .cells c 5 z) : ∀ g, r.v.ownBlock = some g → g ≠ j := fun g hg e => by
  subst e
  rcases h.own.2 with ⟨hv, _⟩ | ⟨g', cap, cur, hv, _, hb, _⟩
  · rw [hv] at hg; simp [Value.ownBlock] at hg
  · rw [hv] at hg
    simp [Value.ownBlock] at hg
    subst hg
    rw [hj] at hb
    simp at hb
    exact ho _ _ hb

/-- The struct's own cells have turned. -/
theorem DkC.turnD {S : Nat → Prop} {w w' : World} {d : Nat} {k : DS} (h : DkC S w d k) (hO : Out (· = d) w w') (last : Option Nat) (arm : Nat) (dn : Bool)
    (hd : w'.heap[d]? = some (.cells #[.map (some k.m), ptrV last, .int .i64 (arm : Int), .bool dn] 101 (0, 0))) (hla : ∀ b, last = some b → ∃ r ∈ k.rs, r.b = b) (harm : arm < 9223372036854775808) (hsz : w'.heap.size = w.heap.size) :
    DkC S w' d { k with last := last, arm := arm, dn := dn } :=
  ⟨hd, ownsMap_out h.hm hO h.ne_m, fun r hr => (h.fs r hr).out hO ((h.fs r hr).ne h.hd (by simp)) ((h.fs r hr).ne2 h.hd (by simp)), h.ap, hla, h.few, h.all, harm, h.Sd, h.Sm, h.Sf, fun i hi => by rw [hsz]; exact h.inn i hi⟩

theorem mem_repl {r x : Rw} {rs : List Rw} (h : x ∈ rs.map (repl r)) : x = r ∨ (x ∈ rs ∧ x.b ≠ r.b) := by
  obtain ⟨q, hq, rfl⟩ := List.mem_map.1 h
  unfold repl
  split
  · exact .inl rfl
  · exact .inr ⟨hq, by assumption⟩
theorem Apart.symm {x y : Rw} (h : Apart x y) : Apart y x := ⟨fun e => h.1 e.symm, fun g hg he => h.2 g he hg⟩
theorem apart_any : ∀ {t : List Rw}, t.Pairwise Apart → ∀ x ∈ t, ∀ y ∈ t, x = y ∨ Apart x y
  | [], _ => by simp
  | z :: t, h => by
    obtain ⟨h1, h2⟩ := List.pairwise_cons.1 h
    intro x hx y hy
    rcases List.mem_cons.1 hx with ex | hx'
    · rcases List.mem_cons.1 hy with ey | hy'
      · exact .inl (ex.trans ey.symm)
      · exact .inr (ex ▸ h1 y hy')
    · rcases List.mem_cons.1 hy with ey | hy'
      · exact .inr (ey ▸ (h1 x hx').symm)
      · exact apart_any h2 x hx' y hy'
theorem apart_eq {rs : List Rw} (h : rs.Pairwise Apart) {r q : Rw} (hr : r ∈ rs) (hq : q ∈ rs) (e : q.b = r.b) : q = r :=
  (apart_any h q hq r hr).resolve_right (fun ha => ha.1 e)
theorem apart_mem {rs : List Rw} (h : rs.Pairwise Apart) {r q : Rw} (hr : r ∈ rs) (hq : q ∈ rs) (hne : q.b ≠ r.b) : Apart r q ∧ Apart q r := by
  have h1 := (apart_any h q hq r hr).resolve_left (fun e => hne (by rw [e]))
  exact ⟨h1.symm, h1⟩
theorem apart_repl {rs : List Rw} (h : rs.Pairwise Apart) {r : Rw} (hr : ∀ q ∈ rs, q.b ≠ r.b → Apart r q ∧ Apart q r) : (rs.map (repl r)).Pairwise Apart := by
  refine List.pairwise_map.2 (h.imp_of_mem fun {x y} hx hy hxy => ?_)
  unfold repl
  by_cases e1 : x.b = r.b
  · have e2 : y.b ≠ r.b := fun e => hxy.1 (by rw [e1, e])
    rw [if_pos e1, if_neg e2]
    exact (hr y hy e2).1
  · by_cases e2 : y.b = r.b
    · rw [if_neg e1, if_pos e2]; exact (hr x hx e1).2
    · rw [if_neg e1, if_neg e2]; exact hxy

/-- A file's bytes have turned. -/
theorem DkC.turnF {S T : Nat → Prop} {w w' : World} {d : Nat} {k : DS} (h : DkC S w d k) {r r' : Rw} (hr : r ∈ k.rs) (hO : Out (fun i => i = r.b ∨ r.v.ownBlock = some i) w w') (hf : FileAt w' r') (hb : r'.b = r.b) (hn : r'.nm = r.nm)
    (hv : ∀ g, r'.v.ownBlock = some g → r.v.ownBlock = some g ∨ w.heap.size ≤ g) (hsum : sumLen (k.rs.map (repl r')) ≤ 16777216) (hT : ∀ i, S i → T i) (hv' : ∀ g, r'.v.ownBlock = some g → T g) (hi : ∀ i, T i → i < w'.heap.size) :
    DkC T w' d { k with rs := k.rs.map (repl r') } := by
  have hx : ∀ q ∈ k.rs, q.b ≠ r'.b → Apart r' q ∧ Apart q r' := fun q hq hne => by
    obtain ⟨h1, h2⟩ := apart_mem h.ap hr hq (by rw [← hb]; exact hne)
    have key : ∀ g, r'.v.ownBlock = some g → q.v.ownBlock ≠ some g := fun g hg he => by
      rcases hv g hg with h3 | h3
      · exact h1.2 g h3 he
      · have := h.inn g ((h.Sf q hq).2 g he); omega
    exact ⟨⟨fun e => hne e.symm, key⟩, ⟨hne, fun g hg he => key g he hg⟩⟩
  have hfr := h.fs r hr
  refine ⟨?_, ?_, ?_, apart_repl h.ap hx, ?_, by simpa using h.few, hsum, h.arm, hT _ h.Sd, hT _ h.Sm, ?_, hi⟩
  · refine (hO.block d (h.inn _ h.Sd) ?_).trans h.hd
    rintro (e | e)
    · exact hfr.ne h.hd (by simp) e.symm
    · exact hfr.ne2 h.hd (by simp) _ e rfl
  · have e : (k.rs.map (repl r')).map Rw.ent = k.rs.map Rw.ent := by
      rw [List.map_map]
      refine List.map_congr_left fun q hq => ?_
      show (repl r' q).ent = q.ent
      unfold repl
      split
      · rename_i e
        have : q = r := apart_eq h.ap hr hq (by rw [e, hb])
        rw [this]
        simp [Rw.ent, hn, hb]
      · rfl
    rw [e]
    have := ownsMap_out h.hm hO (b := k.m) (by
      obtain ⟨es, clock, hbm, _⟩ := h.hm
      rintro (e | e)
      · exact hfr.ne hbm (by simp) e.symm
      · exact hfr.ne2 hbm (by simp) _ e rfl)
    simpa using this
  · intro x hx'
    rcases mem_repl hx' with rfl | ⟨hq, hne⟩
    · exact hf
    · have ha := (apart_mem h.ap hr hq (by rw [← hb]; exact hne)).2
      refine (h.fs x hq).out hO ?_ ?_
      · rintro (e | e)
        · exact ha.1 e
        · obtain ⟨_, hbc, _⟩ := h.fs x hq
          exact hfr.ne2 (h.fs x hq).cell (by simp) _ e rfl
      · rintro g hg (e | e)
        · exact (h.fs x hq).ne2 hfr.cell (by simp) g hg e
        · exact ha.2 g hg e
  · intro b hb'
    obtain ⟨q, hq, hqb⟩ := h.la b hb'
    refine ⟨repl r' q, List.mem_map_of_mem hq, ?_⟩
    unfold repl
    split
    · rename_i e; rw [← e, hqb]
    · exact hqb
  · intro x hx'
    rcases mem_repl hx' with rfl | ⟨hq, _⟩
    · exact ⟨by rw [hb]; exact hT _ (h.Sf r hr).1, hv'⟩
    · exact ⟨hT _ (h.Sf x hq).1, fun g hg => hT _ ((h.Sf x hq).2 g hg)⟩

/-- The map has turned. -/
theorem DkC.turnM {S : Nat → Prop} {w w' : World} {d n : Nat} {k : DS} (h : DkC S w d k) (hO : Out (· = k.m) w w') (hsz : w'.heap.size = w.heap.size) (rs : List Rw) (hm : w'.ownsMap Tryz.prog 9 ptrElem k.m n (.map (rs.map Rw.ent)))
    (hfs : ∀ r ∈ rs, FileAt w r ∧ S r.b ∧ ∀ g, r.v.ownBlock = some g → S g) (hap : rs.Pairwise Apart) (hla : ∀ b, k.last = some b → ∃ r ∈ rs, r.b = b) (hfew : rs.length ≤ 256) (hall : sumLen rs ≤ 16777216) :
    DkC S w' d { k with rs := rs } := by
  obtain ⟨es, clock, hbm, _⟩ := id h.hm
  refine ⟨(hO.block d (h.inn _ h.Sd) (fun e => h.ne_m e.symm)).trans h.hd, ?_, fun r hr => (hfs r hr).1.out hO ((hfs r hr).1.ne hbm (by simp)) ((hfs r hr).1.ne2 hbm (by simp)), hap, hla, hfew, hall, h.arm, h.Sd, h.Sm, fun r hr => (hfs r hr).2, fun i hi => by rw [hsz]; exact h.inn i hi⟩
  have := ownsMap_tight hm
  simpa using this

/-- Behind a start w0: the disk is k, and nothing else has turned. -/
structure At (S : Nat → Prop) (w0 w : World) (d : Nat) (k : DS) : Prop where
  dk : DkC (grew S w0 w) w d k
  out : Out S w0 w
theorem At.start {S : Nat → Prop} {w : World} {d : Nat} {k : DS} (h : DkC S w d k) : At S w w d k :=
  ⟨h.mono (fun _ hi => .inl hi) (fun i hi => h.inn i (grew_refl hi)), Out.refl _ _⟩
theorem At.go {S : Nat → Prop} {w0 w w' : World} {d : Nat} {k k' : DS} (h : At S w0 w d k) (hO : Out (grew S w0 w) w w') (hk : DkC (grew S w0 w') w' d k') : At S w0 w' d k' := ⟨hk, h.out.step hO⟩

end Go.Proofs.YtnahghldlkjleaaGreatDoor
namespace Go.Proofs.YtnahghldlkjleaaGreatDoor
open Go.RowKit

theorem law9 : Maps.Keyed Tryz.prog 9 := Maps.string_keyed Tryz.underlying9
theorem key9 (nm : List UInt8) (hn : nm.length ≤ maxLen) : keyOf Tryz.prog 9 (.string ⟨nm.toArray⟩) = some (.string nm) := by
  have := Go.WideMaps.keyOf_string_mk (P := Tryz.prog) (k := 9) Tryz.underlying9 (s := ⟨nm.toArray⟩) (by simpa [ByteArray.size] using hn)
  simpa using this
theorem zero63 (w : World) : (zeroValue 99).run Tryz.prog w = .ok (.pointer none) w := by kernel_rfl
theorem heap_set {W : World} {B : Nat} {cs : Array Value} {t : TypeId} {z : Nat × Nat} (h : W.heap[B]? = some (.cells cs t z)) (o : Nat) (u : Value) : (W.setCell ⟨B, o, none⟩ u).heap[B]? = some (.cells (cs.setIfInBounds o u) t z) := by
  simp only [World.setCell, Array.getElem?_modify, if_pos]
  rw [h]; rfl
theorem size_set (W : World) (a : Addr) (u : Value) : (W.setCell a u).heap.size = W.heap.size := by simp [World.setCell]

section
variable {ops : Array Oper} {rest : List Oper} {o : Oper} {a : Act} {Q : Exit → Act → World → Prop} {w : World}

theorem wpList_look_some (hg : o.guard = none) (m x : Operand) (hop : o.op = Op.lookup 98 m x true) (B n : Nat) (rs : List Rw) (hm : a.eval m = .map (some B)) (hown : w.ownsMap Tryz.prog 9 ptrElem B n (.map (rs.map Rw.ent))) (nm : List UInt8) (hx : a.eval x = .string ⟨nm.toArray⟩) (hn : nm.length ≤ maxLen) (r : Rw) (hf : look nm rs = some r)
    (hK : wpList Tryz.prog ops Q rest (a.put o.dst (.tuple #[.pointer (some ⟨r.b, 0, none⟩), .bool true])) w) : wpList Tryz.prog ops Q (o :: rest) a w := by
  refine wpList_lookup_own_ok w hg m x 98 hop 9 99 law9 Tryz.underlying98 ptrElem (zero63 w) .nil [] rfl B n _ hm hown _ _ hx (key9 nm hn) (fun v ps hv => ?_)
  rw [atKey_ents, hf] at hv
  rw [ptrElem_at hv, has_ents, hf]
  exact hK
theorem wpList_look_none (hg : o.guard = none) (m x : Operand) (hop : o.op = Op.lookup 98 m x true) (B n : Nat) (rs : List Rw) (hm : a.eval m = .map (some B)) (hown : w.ownsMap Tryz.prog 9 ptrElem B n (.map (rs.map Rw.ent))) (nm : List UInt8) (hx : a.eval x = .string ⟨nm.toArray⟩) (hn : nm.length ≤ maxLen) (hf : look nm rs = none)
    (hK : wpList Tryz.prog ops Q rest (a.put o.dst (.tuple #[.pointer none, .bool false])) w) : wpList Tryz.prog ops Q (o :: rest) a w := by
  refine wpList_lookup_own_ok w hg m x 98 hop 9 99 law9 Tryz.underlying98 ptrElem (zero63 w) .nil [] rfl B n _ hm hown _ _ hx (key9 nm hn) (fun v ps hv => ?_)
  rw [atKey_ents, hf] at hv
  rw [ptrElem_nil hv, has_ents, hf]
  exact hK
theorem wpList_mapLen (hg : o.guard = none) (m : Operand) (hop : o.op = Op.call { callee := Callee.builtin Builtin.len, args := #[m], argTypes := #[98] }) (B n : Nat) (rs : List Rw) (hm : a.eval m = .map (some B)) (hown : w.ownsMap Tryz.prog 9 ptrElem B n (.map (rs.map Rw.ent)))
    (hK : wpList Tryz.prog ops Q rest (a.put o.dst (.int .i64 (rs.length : Int))) w) : wpList Tryz.prog ops Q (o :: rest) a w := by
  refine wpList_len_own w hg m 98 hop 9 99 Tryz.underlying98 ptrElem B n _ hm hown ?_
  rw [Maps.size_eq, List.length_map]
  exact hK
theorem wpList_mapDel (hg : o.guard = none) (m x : Operand) (hop : o.op = Op.call { callee := Callee.builtin Builtin.delete, args := #[m, x], argTypes := #[98, 9] }) (B n : Nat) (rs : List Rw) (hm : a.eval m = .map (some B)) (hown : w.ownsMap Tryz.prog 9 ptrElem B n (.map (rs.map Rw.ent))) (nm : List UInt8) (hx : a.eval x = .string ⟨nm.toArray⟩) (hn : nm.length ≤ maxLen)
    (hK : ∀ w', w'.ownsMap Tryz.prog 9 ptrElem B n (.map ((delR nm rs).map Rw.ent)) → w.mapTurned w' B → wpList Tryz.prog ops Q rest (a.put o.dst (.tuple #[])) w') : wpList Tryz.prog ops Q (o :: rest) a w := by
  refine wpList_delete_own w hg m x 98 9 hop 99 law9 Tryz.underlying98 ptrElem B n _ hm hown _ _ hx (key9 nm hn) (fun w' h1 h2 => ?_)
  rw [del_ents] at h1
  exact hK w' h1 h2
theorem wpList_mapPut (hg : o.guard = none) (m x v : Operand) (hop : o.op = Op.mapUpdate 98 m x v) (B n : Nat) (rs : List Rw) (hm : a.eval m = .map (some B)) (hown : w.ownsMap Tryz.prog 9 ptrElem B n (.map (rs.map Rw.ent))) (r : Rw) (hx : a.eval x = .string ⟨r.nm.toArray⟩) (hn : r.nm.length ≤ maxLen) (hv : a.eval v = .pointer (some ⟨r.b, 0, none⟩)) (hl : n ≤ 1000)
    (hK : ∀ w', w'.ownsMap Tryz.prog 9 ptrElem B (n + 1) (.map ((insR r (delR r.nm rs)).map Rw.ent)) → w.mapTurned w' B → wpList Tryz.prog ops Q rest (a.put o.dst undef) w') : wpList Tryz.prog ops Q (o :: rest) a w := by
  refine wpList_mapUpdate_in w hg m x v 98 hop 9 99 law9 Tryz.underlying98 ptrElem B n _ hm hown (by unfold maxLen; omega) _ _ _ hx hv (key9 r.nm hn) (.lit (.int .i64 (r.b : Int))) [] rfl (fun w' h1 h2 => ?_)
  rw [put_ents] at h1
  exact hK w' h1 h2
end

open Go.ChangeMaps Go.MapKept Go.WideShapes in
theorem turned_size {w w' : World} {b : Nat} (h : w.mapTurned w' b) : w'.heap.size = w.heap.size := by
  obtain ⟨es, clock, es', clock', hb, rfl⟩ := h
  simp [setBlock]
theorem turned_out {w w' : World} {b : Nat} (h : w.mapTurned w' b) : Out (· = b) w w' := Out.grown h.grown (fun j hj => by simpa using hj.symm)

/-- The struct's cells. -/
theorem DkC.cells {S : Nat → Prop} {w : World} {d : Nat} {k : DS} (h : DkC S w d k) :
    (w.cell? ⟨d, 0, none⟩ = some (.map (some k.m)) ∧ w.cell? ⟨d, 1, none⟩ = some (ptrV k.last) ∧ w.cell? ⟨d, 2, none⟩ = some (.int .i64 (k.arm : Int)) ∧ w.cell? ⟨d, 3, none⟩ = some (.bool k.dn)) ∧
    (w.frozen? ⟨d, 1, none⟩ = false ∧ w.frozen? ⟨d, 2, none⟩ = false ∧ w.frozen? ⟨d, 3, none⟩ = false) := by
  have := h.hd
  refine ⟨⟨?_, ?_, ?_, ?_⟩, ?_, ?_, ?_⟩ <;> simp [World.cell?, World.frozen?, this]
/-- A file's cells. -/
theorem FileAt.cells {w : World} {r : Rw} (h : FileAt w r) :
    (w.cell? ⟨r.b, 0, none⟩ = some r.v ∧ w.cell? ⟨r.b, 1, none⟩ = some (.int .i64 (r.syn : Int))) ∧ (w.frozen? ⟨r.b, 0, none⟩ = false ∧ w.frozen? ⟨r.b, 1, none⟩ = false) := by
  have := h.cell
  refine ⟨⟨?_, ?_⟩, ?_, ?_⟩ <;> simp [World.cell?, World.frozen?, this]

/-- A sign of a name. -/
def ofNm (n : Nat) : Bool := (decide (97 ≤ n) && decide (n ≤ 122)) || (decide (48 ≤ n) && decide (n ≤ 57)) || decide (n = 45) || decide (n = 46)
def isNm (nm : List UInt8) : Bool := decide (1 ≤ nm.length) && decide (nm.length ≤ 32) && nm.all (fun x => ofNm x.toNat)

set_option maxRecDepth 100000 in
theorem ofName_45 (w : World) : Calls Tryz.prog 199 #[.int .u8 ((45 : Nat) : Int)] w fun r w' => r = .returned (.bool (ofNm 45)) ∧ w' = w := by
  go_enter Tryz.func199, Tryz.ntmps199
  go_wp2
  go_ret
  exact ⟨rfl, rfl⟩
set_option maxRecDepth 100000 in
theorem ofName_46 (w : World) : Calls Tryz.prog 199 #[.int .u8 ((46 : Nat) : Int)] w fun r w' => r = .returned (.bool (ofNm 46)) ∧ w' = w := by
  go_enter Tryz.func199, Tryz.ntmps199
  go_wp2
  go_ret
  exact ⟨rfl, rfl⟩

set_option maxRecDepth 100000 in
set_option maxHeartbeats 2000000 in
theorem ofName_any (n : Nat) (w : World) : Calls Tryz.prog 199 #[.int .u8 (n : Int)] w fun r w' => r = .returned (.bool (ofNm n)) ∧ w' = w := by
  by_cases h1 : 97 ≤ n
  · by_cases h2 : n ≤ 122
    · skip
      have a1 : decide (97 ≤ (n : Int)) = true := by simp; omega
      have a2 : decide ((n : Int) ≤ 122) = true := by simp; omega
      skip
      have e : ofNm n = true := by simp [ofNm]; omega
      rw [e]; clear e
      go_enter Tryz.func199, Tryz.ntmps199
      go_wp2
      go_ret
      exact ⟨rfl, rfl⟩
    · skip
      have a1 : decide (97 ≤ (n : Int)) = true := by simp; omega
      have a2 : decide ((n : Int) ≤ 122) = false := by simp; omega
      have a3 : decide (48 ≤ (n : Int)) = true := by simp; omega
      have a4 : decide ((n : Int) ≤ 57) = false := by simp; omega
      have a5 : ((n : Int) == 45) = false := by simp; omega
      have a6 : ((n : Int) == 46) = false := by simp; omega
      have e : ofNm n = false := by simp [ofNm]; omega
      rw [e]; clear e
      go_enter Tryz.func199, Tryz.ntmps199
      go_wp2
      go_ret
      exact ⟨rfl, rfl⟩
  · by_cases h3 : 48 ≤ n
    · by_cases h4 : n ≤ 57
      · skip
        have a1 : decide (97 ≤ (n : Int)) = false := by simp; omega
        have a3 : decide (48 ≤ (n : Int)) = true := by simp; omega
        have a4 : decide ((n : Int) ≤ 57) = true := by simp; omega
        have e : ofNm n = true := by simp [ofNm]; omega
        rw [e]; clear e
        go_enter Tryz.func199, Tryz.ntmps199
        go_wp2
        go_ret
        exact ⟨rfl, rfl⟩
      · skip
        have a1 : decide (97 ≤ (n : Int)) = false := by simp; omega
        have a3 : decide (48 ≤ (n : Int)) = true := by simp; omega
        have a4 : decide ((n : Int) ≤ 57) = false := by simp; omega
        have a5 : ((n : Int) == 45) = false := by simp; omega
        have a6 : ((n : Int) == 46) = false := by simp; omega
        have e : ofNm n = false := by simp [ofNm]; omega
        rw [e]; clear e
        go_enter Tryz.func199, Tryz.ntmps199
        go_wp2
        go_ret
        exact ⟨rfl, rfl⟩
    · by_cases h5 : n = 45
      · subst h5
        exact (ofName_45 w)
      · by_cases h6 : n = 46
        · subst h6
          exact (ofName_46 w)
        · skip
          have a1 : decide (97 ≤ (n : Int)) = false := by simp; omega
          have a3 : decide (48 ≤ (n : Int)) = false := by simp; omega
          have a5 : ((n : Int) == 45) = false := by simp; omega
          have a6 : ((n : Int) == 46) = false := by simp; omega
          have e : ofNm n = false := by simp [ofNm]; omega
          rw [e]; clear e
          go_enter Tryz.func199, Tryz.ntmps199
          go_wp2
          go_ret
          exact ⟨rfl, rfl⟩

/-- One write more, that has no error of its own. -/
def DS.fail (k : DS) : DS := if k.arm = 0 then k else { k with arm := k.arm - 1, dn := k.arm == 1 }
def DS.fell (k : DS) : Bool := k.arm == 1
theorem fell_dn {k : DS} (h : k.dn = false) : k.fail.dn = k.fell := by
  unfold DS.fail DS.fell
  split
  · rename_i e; simp [h, e]
  · rfl

set_option maxRecDepth 100000 in
set_option maxHeartbeats 2000000 in
theorem fails_any {S : Nat → Prop} {w0 w : World} {d : Nat} {k : DS} (h : At S w0 w d k) : Calls Tryz.prog 137 #[.pointer (some ⟨d, 0, none⟩)] w fun r w' => r = .returned (.bool k.fell) ∧ At S w0 w' d k.fail ∧ w'.heap.size = w.heap.size := by
  obtain ⟨⟨c0, c1, c2, c3⟩, f1, f2, f3⟩ := h.dk.cells
  by_cases hz : k.arm = 0
  · have e : k.fell = false := by simp [DS.fell, hz]
    have e2 : k.fail = k := by simp [DS.fail, hz]
    rw [e, e2]
    rw [hz] at c2
    clear e e2 hz
    go_enter Tryz.func137, Tryz.ntmps137
    go_wp2
    go_ret
    exact ⟨rfl, h, rfl⟩
  · have HK : Hid (k.fail = { k with arm := k.arm - 1, dn := k.arm == 1 }) := by show k.fail = _; simp [DS.fail, hz]
    have HF : Hid (k.fell = (k.arm == 1)) := rfl
    have harm := h.dk.arm
    obtain ⟨n, hn⟩ : ∃ n, k.arm = n + 1 := ⟨k.arm - 1, by omega⟩
    have HN : Hid (k.arm = n + 1) := hn
    rw [hn] at c2
    have e1 : (((n + 1 : Nat) : Int) == 0) = false := by simp; omega
    have hnb : n < 9223372036854775807 := by omega
    have HH : Hid (At S w0 w d k) := h
    clear h hz hn
    by_cases hn0 : n = 0
    · subst hn0
      go_enter Tryz.func137, Tryz.ntmps137
      go_wp2
      go_ret
      refine ⟨by rw [HF.out, HN.out]; rfl, ?_, by simp [World.setCell]⟩
      rw [HK.out, HN.out]
      have h := HH.out
      refine h.go ((Out.set h.dk.Sd).trans (Out.set h.dk.Sd) (fun i hi _ => hi)) ?_
      have h1 := heap_set (heap_set h.dk.hd 2 (.int .i64 0)) 3 (.bool true)
      exact (h.dk.turnD ((Out.set (X := (· = d)) rfl).trans (Out.set (X := (· = d)) rfl) (fun i hi _ => hi)) k.last 0 true h1 h.dk.la (by omega) (by simp [World.setCell])).mono (fun i hi => grew_mono (by simp [World.setCell]) hi) (fun i hi => by have := h.dk.inn i (grew_mono (by simp [World.setCell]) hi); simpa [World.setCell] using this)
    · have e3 : (((n : Nat) : Int) == 0) = false := by simp; omega
      clear hn0
      go_enter Tryz.func137, Tryz.ntmps137
      go_wp2
      go_ret
      have e4 : ((n : Int) == 0) = (n + 1 == 1) := by rw [e3]; symm; simp; rintro rfl; simp at e3
      refine ⟨by rw [HF.out, HN.out, ← e4, e3]; rfl, ?_, by simp [World.setCell]⟩
      rw [HK.out, HN.out]
      have h := HH.out
      refine h.go ((Out.set h.dk.Sd).trans (Out.set h.dk.Sd) (fun i hi _ => hi)) ?_
      have h1 := heap_set (heap_set h.dk.hd 2 (.int .i64 (n : Int))) 3 (.bool false)
      exact (h.dk.turnD ((Out.set (X := (· = d)) rfl).trans (Out.set (X := (· = d)) rfl) (fun i hi _ => hi)) k.last n (n + 1 == 1) (by rw [← e4, e3]; exact h1) h.dk.la (by omega) (by simp [World.setCell])).mono (fun i hi => grew_mono (by simp [World.setCell]) hi) (fun i hi => by have := h.dk.inn i (grew_mono (by simp [World.setCell]) hi); simpa [World.setCell] using this)

set_option maxRecDepth 100000 in
set_option maxHeartbeats 2000000 in
theorem isName_any (nm : List UInt8) (w : World) (hl : nm.length ≤ maxLen) : Calls Tryz.prog 145 #[.string ⟨nm.toArray⟩] w fun r w' => r = .returned (.bool (isNm nm)) ∧ w' = w := by
  unfold maxLen at hl
  by_cases h1 : 1 ≤ nm.length
  case neg =>
    have e : isNm nm = false := by simp [isNm]; omega
    rw [e]; clear e
    go_enter Tryz.func145, Tryz.ntmps145
    go_wp2
    go_ret
    exact ⟨rfl, rfl⟩
  by_cases h2 : nm.length ≤ 32
  case neg =>
    have e : isNm nm = false := by simp [isNm]; omega
    rw [e]; clear e
    go_enter Tryz.func145, Tryz.ntmps145
    go_wp2
    go_ret
    exact ⟨rfl, rfl⟩
  have HI : Hid (isNm nm = nm.all (fun x => ofNm x.toNat)) := by show isNm nm = _; simp [isNm, h1, h2]
  go_enter Tryz.func145, Tryz.ntmps145
  go_wp2
  go_loopw [14] (fun iv wr => ∃ k : Nat, iv = .int .i64 (k : Int) ∧ k ≤ nm.length ∧ wr = w ∧ (nm.take k).all (fun x => ofNm x.toNat) = true) (fun iv _ => nm.length - (intOf iv).toNat)
  case atStart => exact ⟨0, rfl, Nat.zero_le _, rfl, by simp⟩
  case round =>
    obtain ⟨k, rfl, hk, rfl, hall⟩ := hrel
    have HA : Hid ((nm.take k).all (fun x => ofNm x.toNat) = true) := hall
    clear hall
    by_cases hlt : k < nm.length
    · have HX : Hid (nm.take (k + 1) = nm.take k ++ [nm[k]]) := List.take_succ_eq_append_getElem hlt
      by_cases hx : ofNm nm[k].toNat = true
      · have hc : ∀ w, Calls Tryz.prog 199 #[.int .u8 ((nm[k].toNat : Nat) : Int)] w fun r w' => r = .returned (.bool true) ∧ w' = w := fun w => by have := ofName_any nm[k].toNat w; rwa [hx] at this
        go_wp2_with fail
        refine (hc _).mono ?_
        rintro r w' ⟨rfl, rfl⟩
        go_wp2
        refine ⟨⟨k + 1, by go_num, by omega, trivial, ?_⟩, by simp [intOf]; omega⟩
        rw [HX.out, List.all_append, HA.out]
        simpa using hx
      · have hx' : ofNm nm[k].toNat = false := by simpa using hx
        have hc : ∀ w, Calls Tryz.prog 199 #[.int .u8 ((nm[k].toNat : Nat) : Int)] w fun r w' => r = .returned (.bool false) ∧ w' = w := fun w => by have := ofName_any nm[k].toNat w; rwa [hx'] at this
        have HE : Hid (isNm nm = false) := by
          show isNm nm = false
          rw [HI.out, List.all_eq_false]
          exact ⟨nm[k], List.getElem_mem hlt, hx⟩
        clear hx hx'
        go_wp2_with fail
        refine (hc _).mono ?_
        rintro r w' ⟨rfl, rfl⟩
        go_wp2
        go_ret
        exact ⟨by rw [HE.out]; rfl, rfl⟩
    · have HE : Hid (isNm nm = true) := by show isNm nm = true; rw [HI.out]; have := HA.out; rwa [List.take_of_length_le (by omega)] at this
      go_wp2
      go_ret
      exact ⟨by rw [HE.out]; rfl, rfl⟩

set_option maxRecDepth 100000 in
theorem new_any (w : World) : Calls Tryz.prog 11 #[] w fun r w' => r = .returned (.pointer (some ⟨w.heap.size + 1, 0, none⟩)) ∧ w' = (w.alloc (.map #[] 0)).alloc (.cells #[.map (some w.heap.size), .pointer none, .int .i64 0, .bool false] 101) := by
  have hmm := @run_makeMap Tryz.prog
  go_enter Tryz.func11, Tryz.ntmps11
  go_wp2
  go_ret
  exact ⟨rfl, rfl⟩

/-- A new disk. -/
theorem new_dk (w : World) : DkC (fun i => w.heap.size ≤ i ∧ i < w.heap.size + 2) ((w.alloc (.map #[] 0)).alloc (.cells #[.map (some w.heap.size), .pointer none, .int .i64 0, .bool false] 101)) (w.heap.size + 1) ⟨w.heap.size, [], none, 0, false⟩ :=
  ⟨by have := heap_alloc_new (w.alloc (.map #[] 0)) (.cells #[.map (some w.heap.size), .pointer none, .int .i64 0, .bool false] 101); rw [World.size_alloc] at this; exact this, (World.ownsMap_made w Tryz.prog 9 ptrElem).alloc _, by simp, by simp, by simp, by simp, by simp [sumLen], by simp, ⟨by omega, by omega⟩, ⟨by simp, by simp⟩, by simp, fun i hi => by simp; omega⟩

set_option maxRecDepth 100000 in
theorem has_any {S : Nat → Prop} {w : World} {d : Nat} {k : DS} (h : DkC S w d k) (nm : List UInt8) (hn : nm.length ≤ maxLen) : Calls Tryz.prog 139 #[.pointer (some ⟨d, 0, none⟩), .string ⟨nm.toArray⟩] w fun r w' => r = .returned (.bool (look nm k.rs).isSome) ∧ w' = w := by
  obtain ⟨⟨c0, c1, c2, c3⟩, f1, f2, f3⟩ := h.cells
  have hm := h.hm
  cases hf : look nm k.rs with
  | none =>
    go_enter Tryz.func139, Tryz.ntmps139
    go_wp2_with (at_lookup; refine wpList_look_none rfl _ _ rfl _ _ _ rfl hm nm rfl hn hf ?_)
    go_ret
    exact ⟨rfl, rfl⟩
  | some r =>
    go_enter Tryz.func139, Tryz.ntmps139
    go_wp2_with (at_lookup; refine wpList_look_some rfl _ _ rfl _ _ _ rfl hm nm rfl hn r hf ?_)
    go_ret
    exact ⟨rfl, rfl⟩

set_option maxRecDepth 100000 in
theorem down_any {S : Nat → Prop} {w : World} {d : Nat} {k : DS} (h : DkC S w d k) : Calls Tryz.prog 31 #[.pointer (some ⟨d, 0, none⟩)] w fun r w' => r = .returned (.bool k.dn) ∧ w' = w := by
  obtain ⟨⟨c0, c1, c2, c3⟩, f1, f2, f3⟩ := h.cells
  go_enter Tryz.func31, Tryz.ntmps31
  go_wp2
  go_ret
  exact ⟨rfl, rfl⟩

set_option maxRecDepth 100000 in
theorem arm_any {S : Nat → Prop} {w : World} {d : Nat} {k : DS} (h : DkC S w d k) (n : Int) (hn : n < 9223372036854775808) : Calls Tryz.prog 13 #[.pointer (some ⟨d, 0, none⟩), .int .i64 n] w fun r w' => r = .returned (.tuple #[]) ∧ At S w w' d { k with arm := n.toNat } := by
  obtain ⟨⟨c0, c1, c2, c3⟩, f1, f2, f3⟩ := h.cells
  have HA : Hid (∀ m : Nat, m < 9223372036854775808 → At S w (w.setCell ⟨d, 2, none⟩ (.int .i64 (m : Int))) d { k with arm := m }) := fun m hm => by
    have h0 := At.start h
    refine h0.go (Out.set h0.dk.Sd) ?_
    exact (h0.dk.turnD (Out.set (X := (· = d)) rfl) k.last m k.dn (heap_set h.hd 2 _) h.la hm (by simp [World.setCell])).mono (fun i hi => grew_mono (by simp [World.setCell]) hi) (fun i hi => by have := h0.dk.inn i (grew_mono (by simp [World.setCell]) hi); simpa [World.setCell] using this)
  by_cases h0 : 0 ≤ n
  · obtain ⟨m, rfl⟩ : ∃ m : Nat, n = (m : Int) := ⟨n.toNat, by omega⟩
    go_enter Tryz.func13, Tryz.ntmps13
    go_wp2
    go_end0
    exact ⟨rfl, HA.out m (by omega)⟩
  · have e : n.toNat = 0 := by omega
    rw [e]
    clear e
    go_enter Tryz.func13, Tryz.ntmps13
    go_wp2
    go_end0
    exact ⟨rfl, HA.out 0 (by omega)⟩

end Go.Proofs.YtnahghldlkjleaaGreatDoor
namespace Go.Proofs.YtnahghldlkjleaaGreatDoor
open Go.RowKit

def lookP (nm : List UInt8) (fs : List PF) : Option PF := fs.find? (fun f => f.nm == nm)
def delP (nm : List UInt8) (fs : List PF) : List PF := fs.filter (fun f => !(f.nm == nm))
def insP (f : PF) : List PF → List PF
  | [] => [f]
  | y :: q => if bytesBefore f.nm y.nm then f :: y :: q else y :: insP f q
def sumP (fs : List PF) : Nat := (fs.map fun f => f.dat.length).sum
def PD.fail (p : PD) : PD := if p.arm = 0 then p else { p with arm := p.arm - 1, dn := p.arm == 1 }
def PD.fell (p : PD) : Bool := p.arm == 1

def syncP (nm : List UInt8) (f : PF) : PF := if f.nm == nm then { f with syn := f.dat.length } else f
def cutP (nm : List UInt8) (n : Nat) (f : PF) : PF := if f.nm == nm then { f with dat := f.dat.take n, syn := min f.syn n } else f
def appP (nm b : List UInt8) (f : PF) : PF := if f.nm == nm then { f with dat := f.dat ++ b, late := true } else { f with late := false }
/-- What a crash leaves of a file. -/
def crashP (keep : Int) (f : PF) : PF :=
  let s := if f.late then f.syn + min keep.toNat (f.dat.length - f.syn) else f.syn
  ⟨f.nm, f.dat.take s, s, false⟩

def doCreate (p : PD) (nm : List UInt8) : Nat × PD :=
  if p.dn then (11, p) else if isNm nm = false then (7, p) else if (lookP nm p.fs).isSome then (9, p) else if 256 ≤ p.fs.length then (10, p) else
  if p.fell then (11, p.fail) else (0, { p.fail with fs := insP ⟨nm, [], 0, false⟩ (delP nm p.fs) })
def doSync (p : PD) (nm : List UInt8) : Nat × PD :=
  if p.dn then (11, p) else if (lookP nm p.fs).isSome = false then (8, p) else
  if p.fell then (11, p.fail) else (0, { p.fail with fs := p.fs.map (syncP nm) })
def doCut (p : PD) (nm : List UInt8) (n : Int) : Nat × PD :=
  if p.dn then (11, p) else match lookP nm p.fs with
  | none => (8, p)
  | some f => if n < 0 ∨ (f.dat.length : Int) < n then (1, p) else
    if p.fell then (11, p.fail) else (0, { p.fail with fs := p.fs.map (cutP nm n.toNat) })
def doAppend (p : PD) (nm b : List UInt8) : Nat × PD :=
  if p.dn then (11, p) else if (lookP nm p.fs).isSome = false then (8, p) else
  if 16777216 < b.length + sumP p.fs then (10, p) else
  if p.fell then (11, { p.fail with fs := p.fs.map (appP nm (b.take (b.length / 2))) }) else (0, { p.fail with fs := p.fs.map (appP nm b) })
def doRename (p : PD) (nm to : List UInt8) : Nat × PD :=
  if p.dn then (11, p) else match lookP nm p.fs with
  | none => (8, p)
  | some f => if isNm to = false then (7, p) else
    if p.fell then (11, p.fail) else if nm = to then (0, p.fail) else (0, { p.fail with fs := insP { f with nm := to } (delP to (delP nm (delP to p.fs))) })
def doRemove (p : PD) (nm : List UInt8) : Nat × PD :=
  if p.dn then (11, p) else if (lookP nm p.fs).isSome = false then (8, p) else
  if p.fell then (11, p.fail) else (0, { p.fail with fs := delP nm p.fs })
def doCrash (p : PD) (keep : Int) : PD := ⟨p.fs.map (crashP keep), 0, false⟩

theorem look_pf (l : Option Nat) (nm : List UInt8) (rs : List Rw) : lookP nm (rs.map (Rw.pf l)) = (look nm rs).map (Rw.pf l) := by
  unfold lookP look
  rw [List.find?_map]; rfl
theorem look_pd (k : DS) (nm : List UInt8) : lookP nm k.pd.fs = (look nm k.rs).map (Rw.pf k.last) := look_pf _ _ _
theorem del_pf (l : Option Nat) (nm : List UInt8) (rs : List Rw) : (delR nm rs).map (Rw.pf l) = delP nm (rs.map (Rw.pf l)) := by
  unfold delR delP
  rw [List.filter_map]; rfl
theorem ins_pf (l : Option Nat) (r : Rw) (rs : List Rw) : (insR r rs).map (Rw.pf l) = insP (Rw.pf l r) (rs.map (Rw.pf l)) := by
  induction rs with
  | nil => rfl
  | cons y q ih =>
    simp only [insR, List.map_cons, insP]
    by_cases h : bytesBefore r.nm y.nm
    · rw [if_pos h, if_pos (show bytesBefore (Rw.pf l r).nm (Rw.pf l y).nm = true from h)]; rfl
    · rw [if_neg h, if_neg (show ¬ bytesBefore (Rw.pf l r).nm (Rw.pf l y).nm = true from h), List.map_cons, ih]
theorem sum_pf (l : Option Nat) (rs : List Rw) : sumP (rs.map (Rw.pf l)) = sumLen rs := by
  unfold sumP sumLen
  rw [List.map_map]; rfl
theorem fail_pd (k : DS) : k.fail.pd = k.pd.fail := by
  unfold DS.fail PD.fail DS.pd
  by_cases h : k.arm = 0 <;> simp [h]
theorem fell_pd (k : DS) : k.pd.fell = k.fell := rfl
theorem fail_rs (k : DS) : k.fail.rs = k.rs := by unfold DS.fail; split <;> rfl
theorem fail_m (k : DS) : k.fail.m = k.m := by unfold DS.fail; split <;> rfl
theorem fail_last (k : DS) : k.fail.last = k.last := by unfold DS.fail; split <;> rfl
theorem pd_fail_fs (p : PD) : p.fail.fs = p.fs := by unfold PD.fail; split <;> rfl

theorem map_repl {rs : List Rw} {r r' : Rw} (hap : rs.Pairwise Apart) (hr : r ∈ rs) (hb : r'.b = r.b) (l l' : Option Nat) (G : PF → PF) (h1 : Rw.pf l' r' = G (Rw.pf l r)) (h2 : ∀ q ∈ rs, q.b ≠ r.b → Rw.pf l' q = G (Rw.pf l q)) :
    (rs.map (repl r')).map (Rw.pf l') = (rs.map (Rw.pf l)).map G := by
  rw [List.map_map, List.map_map]
  refine List.map_congr_left fun q hq => ?_
  show Rw.pf l' (repl r' q) = G (Rw.pf l q)
  unfold repl
  split
  · rename_i e
    rw [apart_eq hap hr hq (by rw [e, hb])]
    exact h1
  · rename_i e
    exact h2 q hq (by rw [← hb]; exact e)

theorem repl_same {rs : List Rw} {r' : Rw} (h : ∀ q ∈ rs, q.b ≠ r'.b) : rs.map (repl r') = rs := by
  have : rs.map (repl r') = rs.map id := List.map_congr_left fun q hq => by unfold repl; rw [if_neg (h q hq)]; rfl
  rw [this, List.map_id]
theorem sum_repl : ∀ {rs : List Rw} {r r' : Rw}, rs.Pairwise Apart → r ∈ rs → r'.b = r.b → sumLen (rs.map (repl r')) + r.dat.length = sumLen rs + r'.dat.length
  | [], _, _, _, hr, _ => by simp at hr
  | q :: t, r, r', hap, hr, hb => by
    obtain ⟨h1, h2⟩ := List.pairwise_cons.1 hap
    simp only [List.map_cons, sumLen, List.sum_cons]
    rcases List.mem_cons.1 hr with e | hr'
    · have e2 : repl r' q = r' := by unfold repl; rw [if_pos (by rw [hb, e])]
      have e3 : t.map (repl r') = t := repl_same (fun x hx => by rw [hb, e]; exact fun e4 => (h1 x hx).1 e4.symm)
      rw [e2, e3, e]
      omega
    · have e2 : repl r' q = q := by unfold repl; rw [if_neg (by rw [hb]; exact (h1 r hr').1)]
      have := sum_repl h2 hr' hb
      unfold sumLen at this
      rw [e2]
      omega
theorem sum_del_le : ∀ {rs : List Rw} {r : Rw}, r ∈ rs → r.dat.length + sumLen (delR r.nm rs) ≤ sumLen rs
  | [], _, hr => by simp at hr
  | q :: t, r, hr => by
    by_cases e : q.nm == r.nm
    · have e1 : delR r.nm (q :: t) = delR r.nm t := by simp [delR, e]
      rw [e1]
      rcases List.mem_cons.1 hr with rfl | hr'
      · have := sum_delR r.nm t
        simp only [sumLen, List.map_cons, List.sum_cons] at *
        omega
      · have := sum_del_le hr'
        simp only [sumLen, List.map_cons, List.sum_cons] at *
        omega
    · have e1 : delR r.nm (q :: t) = q :: delR r.nm t := by simp [delR, e]
      rw [e1]
      rcases List.mem_cons.1 hr with e2 | hr'
      · exact absurd (by rw [e2]; simp) e
      · have := sum_del_le hr'
        simp only [sumLen, List.map_cons, List.sum_cons] at *
        omega
theorem len_del_lt {rs : List Rw} {r : Rw} (hr : r ∈ rs) : (delR r.nm rs).length < rs.length := by
  unfold delR
  refine List.length_filter_lt_length_iff_exists.2 ⟨r, hr, by simp⟩

theorem pairwise_any {α : Type} {R : α → α → Prop} (hs : ∀ a b, R a b → R b a) : ∀ {t : List α}, t.Pairwise R → ∀ x ∈ t, ∀ y ∈ t, x = y ∨ R x y
  | [], _ => by simp
  | z :: t, h => by
    obtain ⟨h1, h2⟩ := List.pairwise_cons.1 h
    intro x hx y hy
    rcases List.mem_cons.1 hx with ex | hx'
    · rcases List.mem_cons.1 hy with ey | hy'
      · exact .inl (ex.trans ey.symm)
      · exact .inr (ex ▸ h1 y hy')
    · rcases List.mem_cons.1 hy with ey | hy'
      · exact .inr (ey ▸ hs _ _ (h1 x hx'))
      · exact pairwise_any hs h2 x hx' y hy'

/-- The names rise. -/
theorem DkC.rise {S : Nat → Prop} {w : World} {d : Nat} {k : DS} (h : DkC S w d k) : k.rs.Pairwise (fun r q => bytesBefore r.nm q.nm = true) := by
  obtain ⟨es, clock, hb, F, _, hD⟩ := h.hm
  have h1 := Go.Maps.sorted_sorted law9.one _ (Go.Maps.fit_keys F) (Go.Maps.fit_apart law9 F)
  have h2 : k.rs.map Rw.ent = (es.toList.map (WideElems.rg Tryz.prog 9 ptrElem)).foldr DataW.insert [] := by injection hD
  rw [← h2, List.pairwise_map] at h1
  exact h1.imp (fun {a b} hab => by simpa [Rw.ent, Lit.before] using hab)
theorem before_ne {a b : List UInt8} (h : bytesBefore a b = true) : a ≠ b := by
  intro e
  subst e
  induction a with
  | nil => simp [bytesBefore] at h
  | cons x r ih =>
    simp [bytesBefore] at h
    exact ih h
theorem DkC.nms {S : Nat → Prop} {w : World} {d : Nat} {k : DS} (h : DkC S w d k) {r q : Rw} (hr : r ∈ k.rs) (hq : q ∈ k.rs) (e : q.nm = r.nm) : q = r := by
  have := pairwise_any (R := fun (a b : Rw) => a.nm ≠ b.nm) (fun a b hab e => hab e.symm) (h.rise.imp (fun hab => before_ne hab)) q hq r hr
  exact this.resolve_right (fun hn => hn e)
theorem DkC.nm_ne {S : Nat → Prop} {w : World} {d : Nat} {k : DS} (h : DkC S w d k) {r q : Rw} (hr : r ∈ k.rs) (hq : q ∈ k.rs) (hne : q.b ≠ r.b) : q.nm ≠ r.nm := fun e => hne (by rw [h.nms hr hq e])
theorem DkC.look {S : Nat → Prop} {w : World} {d : Nat} {k : DS} (h : DkC S w d k) {r : Rw} (hr : r ∈ k.rs) : look r.nm k.rs = some r := by
  cases hf : YtnahghldlkjleaaGreatDoor.look r.nm k.rs with
  | none =>
    have := List.find?_eq_none.1 hf r hr
    simp at this
  | some q =>
    obtain ⟨hq, hn⟩ := look_some hf
    rw [h.nms hr hq hn]

theorem apart_insR {r : Rw} {rs : List Rw} (h : rs.Pairwise Apart) (hr : ∀ q ∈ rs, Apart r q) : (insR r rs).Pairwise Apart := by
  induction rs with
  | nil => simp [insR]
  | cons y q ih =>
    obtain ⟨h1, h2⟩ := List.pairwise_cons.1 h
    unfold insR
    split
    · exact List.pairwise_cons.2 ⟨hr, h⟩
    · refine List.pairwise_cons.2 ⟨fun x hx => ?_, ih h2 (fun x hx => hr x (by simp [hx]))⟩
      rcases mem_insR.1 hx with rfl | hx
      · exact (hr y (by simp)).symm
      · exact h1 x hx
theorem apart_delR {nm : List UInt8} {rs : List Rw} (h : rs.Pairwise Apart) : (delR nm rs).Pairwise Apart := h.filter _

/-- Only a file's own block has turned. -/
theorem At.turnF1 {S : Nat → Prop} {w0 w w' : World} {d : Nat} {k : DS} (h : At S w0 w d k) {r r' : Rw} (hr : r ∈ k.rs) (hO : Out (· = r.b) w w') (hsz : w'.heap.size = w.heap.size)
    (hc : w'.heap[r.b]? = some (.cells #[r'.v, .int .i64 (r'.syn : Int)] 105 (0, 0))) (hb : r'.b = r.b) (hn : r'.nm = r.nm) (hv : ∀ g, r'.v.ownBlock = some g → r.v.ownBlock = some g) (hown : Ow 0 w r'.v r'.dat) (hsyn : r'.syn ≤ r'.dat.length) (hlen : r'.dat.length ≤ r.dat.length) :
    At S w0 w' d { k with rs := k.rs.map (repl r') } := by
  have hf := h.dk.fs r hr
  have hS := h.dk.Sf r hr
  have hT : ∀ i, grew S w0 w i → grew S w0 w' i := fun i hi => grew_mono (by omega) hi
  refine h.go (hO.mono (fun i hi => by rw [hi]; exact hS.1)) ?_
  refine h.dk.turnF hr (hO.mono (fun i hi => .inl hi)) ⟨by rw [hb]; exact hc, hown.out hO (fun g hg => hf.ne2 hf.cell (by simp) g (hv g hg)), hsyn, by rw [hn]; exact hf.nm⟩ hb hn (fun g hg => .inl (hv g hg)) ?_ hT (fun g hg => hT _ (hS.2 g (hv g hg))) ?_
  · have := sum_repl h.dk.ap hr hb
    have := h.dk.all
    omega
  · intro i hi
    have := h.dk.inn i (grew_mono (by omega) hi)
    omega

section
variable {ops : Array Oper} {rest : List Oper} {o : Oper} {a : Act} {Q : Exit → Act → World → Prop} {w : World}
/-- A step of a range over a disk's files. -/
theorem wpList_next_disk (hg : o.guard = none) (it : Operand) (hop : o.op = Op.next it false) (B r n : Nat) (rs : List Rw) (left : Lit → Bool) (cnt : Nat) (hit : a.eval it = .pointer (some ⟨r, 0, none⟩)) (h : w.ranges Tryz.prog 9 ptrElem B r n (.map (rs.map Rw.ent)) left cnt)
    (hDone : cnt = 0 → (∀ kl, left kl = false) → wpList Tryz.prog ops Q rest (a.put o.dst (.tuple #[.bool false])) w)
    (hMore : ∀ (f : Rw) (w' : World) (cnt' : Nat), f ∈ rs → look f.nm rs = some f → f.nm.length ≤ maxLen → left (.string f.nm) = true → w'.ranges Tryz.prog 9 ptrElem B r n (.map (rs.map Rw.ent)) (fun z => left z && !z.sameKey (.string f.nm)) cnt' → cnt' < cnt →
      w.grownBy w' (some r) → w'.heap.size = w.heap.size → (Instr.entry (.pointer (some ⟨r, 0, none⟩))).run Tryz.prog w' = .ok (.tuple #[.string ⟨f.nm.toArray⟩, .pointer (some ⟨f.b, 0, none⟩)]) w' →
      wpList Tryz.prog ops Q rest (a.put o.dst (.tuple #[.bool true, .string ⟨f.nm.toArray⟩, .pointer (some ⟨f.b, 0, none⟩)])) w') :
    wpList Tryz.prog ops Q (o :: rest) a w := by
  refine wpList_next_ranges (α := List UInt8) (β := Option Nat) w hg it hop 9 law9 ptrElem (fun l => .string ⟨l.toArray⟩) ptrV (fun key kl hk => by obtain ⟨x, hx, _⟩ := Maps.keyOf_str Tryz.underlying9 hk; exact ⟨x, hx⟩) (fun v y hv => ptrElem_inv hv) B r n _ left cnt hit h hDone ?_
  intro x c kl y w' cnt' hkey hlk hv hat hrg hlt hgr hsz hen
  obtain ⟨x', ex, rfl, hxl⟩ := Maps.keyOf_str Tryz.underlying9 hkey
  obtain rfl : x = x' := encStr_inj ex
  have h1 := hat .nil
  have h2 := hat (.lit (.bool true))
  rw [atKey_ents] at h1 h2
  cases hf : look x rs with
  | none => rw [hf] at h1 h2; simp only at h1 h2; rw [← h1] at h2; cases h2
  | some f =>
    rw [hf] at h1
    simp only at h1
    obtain ⟨hm, rfl⟩ := look_some hf
    have hc : ptrV c = .pointer (some ⟨f.b, 0, none⟩) := ptrElem_at (ps := y.2) (by rw [hv, h1])
    rw [hc] at hen ⊢
    exact hMore f w' cnt' hm hf hxl hlk hrg hlt hgr hsz hen
end

end Go.Proofs.YtnahghldlkjleaaGreatDoor
