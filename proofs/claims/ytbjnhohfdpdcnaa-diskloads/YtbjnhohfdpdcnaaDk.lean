/-
  A disk in memory: the block of the struct, the map, the files' blocks and their bytes; what lies outside stays.
-/
import Derived.Test.YtbjnhohfdpdcnaaBas
import Derived.Maps.Range
namespace Go.Proofs.Ytbjnhohfdpdcnaa
open Go.RowKit

/-! ### what may turn -/
/-- Blocks outside X are as they were. -/
structure Out (X : Nat → Prop) (w w' : World) : Prop where
  os : w'.os = w.os
  tape : w'.tape = w.tape
  output : w'.output = w.output
  size : w.heap.size ≤ w'.heap.size
  block : ∀ i, i < w.heap.size → ¬ X i → w'.heap[i]? = w.heap[i]?

/-- The blocks of X, and those that are new. -/
def grew (X : Nat → Prop) (w w' : World) : Nat → Prop := fun i => X i ∨ (w.heap.size ≤ i ∧ i < w'.heap.size)

theorem Out.refl (X : Nat → Prop) (w : World) : Out X w w := ⟨rfl, rfl, rfl, Nat.le_refl _, fun _ _ _ => rfl⟩
theorem Out.trans {X Y : Nat → Prop} {a b c : World} (h : Out X a b) (k : Out Y b c) (hY : ∀ i, Y i → i < a.heap.size → X i) : Out X a c :=
  ⟨k.os.trans h.os, k.tape.trans h.tape, k.output.trans h.output, Nat.le_trans h.size k.size, fun i hi hx => (k.block i (Nat.lt_of_lt_of_le hi h.size) (fun hy => hx (hY i hy hi))).trans (h.block i hi hx)⟩
theorem Out.mono {X Y : Nat → Prop} {a b : World} (h : Out X a b) (hX : ∀ i, X i → Y i) : Out Y a b := ⟨h.os, h.tape, h.output, h.size, fun i hi hy => h.block i hi (fun hx => hy (hX i hx))⟩
theorem Out.grown {X : Nat → Prop} {a b : World} {row : Option Nat} (h : a.grownBy b row) (hr : ∀ j, row = some j → X j) : Out X a b :=
  ⟨h.os, h.tape, h.output, h.size, fun i hi hx => h.block i hi (fun e => hx (hr i e.symm))⟩
theorem Out.of_below {X : Nat → Prop} {a b : World} (h : Below a.heap.size a b) : Out X a b := ⟨h.os, h.tape, h.output, h.size, fun i hi _ => h.block i hi⟩
theorem Out.below {X : Nat → Prop} {a b : World} {N : Nat} (h : Out X a b) (hN : N ≤ a.heap.size) (hX : ∀ i, X i → N ≤ i) : Below N a b :=
  ⟨h.os, h.tape, h.output, h.size, fun i hi => h.block i (by omega) (fun hx => by have := hX i hx; omega)⟩
theorem Out.set {X : Nat → Prop} {w : World} {b o : Nat} {u : Value} (hb : X b) : Out X w (w.setCell ⟨b, o, none⟩ u) :=
  ⟨rfl, rfl, rfl, by simp [World.setCell], fun i _ hx => Below.heap_setCell _ _ _ _ (fun e => hx (by rw [e]; exact hb))⟩
theorem Out.step {X : Nat → Prop} {a b c : World} (h : Out X a b) (k : Out (grew X a b) b c) : Out X a c :=
  h.trans k (fun i hi hl => hi.elim id (fun h2 => absurd h2.1 (by omega)))
theorem grew_refl {X : Nat → Prop} {w : World} {i : Nat} (h : grew X w w i) : X i := h.elim id (fun h2 => absurd h2.2 (by omega))
theorem grew_mono {X : Nat → Prop} {w a b : World} (h : a.heap.size ≤ b.heap.size) {i : Nat} (hi : grew X w a i) : grew X w b i := hi.imp id (fun h2 => ⟨h2.1, by omega⟩)

theorem Ow.out {X : Nat → Prop} {N : Nat} {w w' : World} {v : Value} {l : List UInt8} (h : Ow N w v l) (hO : Out X w w') (hx : ∀ g, v.ownBlock = some g → ¬ X g) : Ow N w' v l := by
  refine ⟨h.1, ?_⟩
  rcases h.2 with h2 | ⟨g, cap, cur, rfl, hg, hb, r⟩
  · exact .inl h2
  · exact .inr ⟨g, cap, cur, rfl, hg, (hO.block g (Array.getElem?_eq_some_iff.1 hb).1 (hx g rfl)).trans hb, r⟩
theorem ownsMap_out {X : Nat → Prop} {w w' : World} {k : TypeId} {R : Value → Option (DataW Unit × List MemPlace)} {b n : Nat} {D : DataW Unit} (h : w.ownsMap Try.prog k R b n D) (hO : Out X w w') (hx : ¬ X b) : w'.ownsMap Try.prog k R b n D := by
  have hlt := h.lt
  obtain ⟨es, clock, hb, r⟩ := h
  exact ⟨es, clock, (hO.block b hlt hx).trans hb, r⟩
theorem ownsMap_tight {w : World} {k : TypeId} {R : Value → Option (DataW Unit × List MemPlace)} {b n : Nat} {es : List (Lit × DataW Unit)} (h : w.ownsMap Try.prog k R b n (.map es)) : w.ownsMap Try.prog k R b es.length (.map es) := by
  obtain ⟨e, clock, hb, F, hs, hD⟩ := h
  refine ⟨e, clock, hb, F, ?_, hD⟩
  have := congrArg Maps.size hD
  simp only [Maps.size_eq, length_sorted] at this
  simp at this
  omega

/-! ### the disk in plain lists -/
/-- A file: its name, its bytes, how many are durable, whether it was appended to last. -/
structure PF where
  nm : List UInt8
  dat : List UInt8
  syn : Nat
  late : Bool
/-- A disk. -/
structure PD where
  fs : List PF
  arm : Nat
  dn : Bool

/-- A file in memory: its block, the slice of its bytes. -/
structure Rw where
  nm : List UInt8
  b : Nat
  v : Value
  dat : List UInt8
  syn : Nat
structure DS where
  m : Nat
  rs : List Rw
  last : Option Nat
  arm : Nat
  dn : Bool

def Rw.pf (last : Option Nat) (r : Rw) : PF := ⟨r.nm, r.dat, r.syn, last == some r.b⟩
def DS.pd (k : DS) : PD := ⟨k.rs.map (Rw.pf k.last), k.arm, k.dn⟩
def Rw.ent (r : Rw) : Lit × DataW Unit := (.string r.nm, .lit (.int .i64 (r.b : Int)))
def ptrV : Option Nat → Value
  | none => .pointer none
  | some b => .pointer (some ⟨b, 0, none⟩)
/-- How a pointer to a file reads: by its block. -/
def ptrElem : Value → Option (DataW Unit × List MemPlace)
  | .pointer none => some (.nil, [])
  | .pointer (some ⟨b, 0, none⟩) => some (.lit (.int .i64 (b : Int)), [])
  | _ => none
theorem ptrElem_inv {v : Value} {y : DataW Unit × List MemPlace} (h : ptrElem v = some y) : ∃ c : Option Nat, v = ptrV c := by
  unfold ptrElem at h
  split at h
  · exact ⟨none, rfl⟩
  · exact ⟨some _, rfl⟩
  · cases h
theorem ptrElem_at {v : Value} {b : Nat} {ps : List MemPlace} (h : ptrElem v = some (.lit (.int .i64 (b : Int)), ps)) : v = .pointer (some ⟨b, 0, none⟩) := by
  unfold ptrElem at h
  split at h
  · simp at h
  · rename_i b'
    simp at h
    obtain ⟨h, _⟩ := h
    have : b' = b := by omega
    rw [this]
  · cases h
theorem ptrElem_nil {v : Value} {ps : List MemPlace} (h : ptrElem v = some (.nil, ps)) : v = .pointer none := by
  unfold ptrElem at h
  split at h
  · rfl
  · simp at h
  · cases h

def sumLen (rs : List Rw) : Nat := (rs.map fun r => r.dat.length).sum
/-- No two files share a block. -/
def Apart (r q : Rw) : Prop := r.b ≠ q.b ∧ ∀ g, r.v.ownBlock = some g → q.v.ownBlock ≠ some g
def look (nm : List UInt8) (rs : List Rw) : Option Rw := rs.find? (fun r => r.nm == nm)
def delR (nm : List UInt8) (rs : List Rw) : List Rw := rs.filter (fun r => !(r.nm == nm))
def insR (r : Rw) : List Rw → List Rw
  | [] => [r]
  | y :: q => if bytesBefore r.nm y.nm then r :: y :: q else y :: insR r q
def repl (r : Rw) (q : Rw) : Rw := if q.b = r.b then r else q

theorem has_ents (rs : List Rw) (nm : List UInt8) : Maps.has (.map (rs.map Rw.ent)) (.string nm) = (look nm rs).isSome := by
  rw [Maps.has_eq, look, List.any_map]
  induction rs with
  | nil => rfl
  | cons r q ih =>
    simp only [List.any_cons, List.find?_cons, Function.comp, Rw.ent, Lit.sameKey]
    cases h : r.nm == nm
    · simpa [Function.comp, Rw.ent, Lit.sameKey] using ih
    · simp
theorem atKey_ents (rs : List Rw) (nm : List UInt8) (zd : DataW Unit) : (DataW.map (rs.map Rw.ent)).atKey (.string nm) zd = match look nm rs with | some r => .lit (.int .i64 (r.b : Int)) | none => zd := by
  unfold DataW.atKey look
  induction rs with
  | nil => rfl
  | cons r q ih =>
    simp only [List.map_cons, List.find?_cons, Rw.ent, Lit.sameKey]
    cases h : r.nm == nm
    · simpa [Rw.ent, Lit.sameKey] using ih
    · rfl
theorem del_ents (rs : List Rw) (nm : List UInt8) : (DataW.map (rs.map Rw.ent)).del (.string nm) = .map ((delR nm rs).map Rw.ent) := by
  unfold DataW.del delR
  simp only [List.filter_map]
  rfl
theorem insert_ents (r : Rw) (rs : List Rw) : DataW.insert r.ent (rs.map Rw.ent) = (insR r rs).map Rw.ent := by
  induction rs with
  | nil => rfl
  | cons y q ih =>
    simp only [List.map_cons, insR, DataW.insert]
    by_cases h : bytesBefore r.nm y.nm
    · rw [if_pos h, if_pos (by simpa [Rw.ent, Lit.before] using h)]; rfl
    · rw [if_neg h, if_neg (by simpa [Rw.ent, Lit.before] using h), ih]; rfl
theorem put_ents (rs : List Rw) (r : Rw) : (DataW.map (rs.map Rw.ent)).put (.string r.nm) (.lit (.int .i64 (r.b : Int))) = .map ((insR r (delR r.nm rs)).map Rw.ent) := by
  rw [← insert_ents]
  unfold DataW.put delR
  simp only [List.filter_map]
  rfl
theorem mem_insR {x r : Rw} {rs : List Rw} : x ∈ insR r rs ↔ x = r ∨ x ∈ rs := by
  induction rs with
  | nil => simp [insR]
  | cons y q ih =>
    unfold insR
    split
    · simp
    · simp only [List.mem_cons, ih]
      constructor
      · rintro (h | h | h) <;> simp [h]
      · rintro (h | h | h) <;> simp [h]
theorem len_insR {r : Rw} {rs : List Rw} : (insR r rs).length = rs.length + 1 := by
  induction rs with
  | nil => rfl
  | cons y q ih => unfold insR; split <;> simp [ih]
theorem sum_insR {r : Rw} {rs : List Rw} : sumLen (insR r rs) = r.dat.length + sumLen rs := by
  induction rs with
  | nil => rfl
  | cons y q ih =>
    unfold insR
    split
    · simp [sumLen]
    · simp only [sumLen, List.map_cons, List.sum_cons] at *
      omega
theorem look_some {nm : List UInt8} {rs : List Rw} {r : Rw} (h : look nm rs = some r) : r ∈ rs ∧ r.nm = nm :=
  ⟨List.mem_of_find?_eq_some h, by simpa using List.find?_some h⟩
theorem len_delR (nm : List UInt8) (rs : List Rw) : (delR nm rs).length ≤ rs.length := List.length_filter_le _ _
theorem mem_delR {nm : List UInt8} {rs : List Rw} {x : Rw} : x ∈ delR nm rs ↔ x ∈ rs ∧ x.nm ≠ nm := by simp [delR]
theorem sum_delR (nm : List UInt8) (rs : List Rw) : sumLen (delR nm rs) ≤ sumLen rs := by
  induction rs with
  | nil => simp [delR, sumLen]
  | cons y q ih =>
    unfold delR sumLen at *
    by_cases h : y.nm == nm <;> simp [h] <;> omega

/-- A file lies in memory. -/
structure FileAt (w : World) (r : Rw) : Prop where
  cell : w.heap[r.b]? = some (.cells #[r.v, .int .i64 (r.syn : Int)] 79 (0, 0))
  own : Ow 0 w r.v r.dat
  syn : r.syn ≤ r.dat.length
  nm : r.nm.length ≤ 32

theorem FileAt.out {X : Nat → Prop} {w w' : World} {r : Rw} (h : FileAt w r) (hO : Out X w w') (h1 : ¬ X r.b) (h2 : ∀ g, r.v.ownBlock = some g → ¬ X g) : FileAt w' r :=
  ⟨(hO.block _ (Array.getElem?_eq_some_iff.1 h.cell).1 h1).trans h.cell, h.own.out hO h2, h.syn, h.nm⟩

/-- Block d holds a disk; its blocks lie in S. -/
structure DkC (S : Nat → Prop) (w : World) (d : Nat) (k : DS) : Prop where
  hd : w.heap[d]? = some (.cells #[.map (some k.m), ptrV k.last, .int .i64 (k.arm : Int), .bool k.dn] 65 (0, 0))
  hm : w.ownsMap Try.prog 9 ptrElem k.m k.rs.length (.map (k.rs.map Rw.ent))
  fs : ∀ r ∈ k.rs, FileAt w r
  ap : k.rs.Pairwise Apart
  la : ∀ b, k.last = some b → ∃ r ∈ k.rs, r.b = b
  few : k.rs.length ≤ 256
  all : sumLen k.rs ≤ 16777216
  arm : k.arm < 9223372036854775808
  Sd : S d
  Sm : S k.m
  Sf : ∀ r ∈ k.rs, S r.b ∧ ∀ g, r.v.ownBlock = some g → S g
  inn : ∀ i, S i → i < w.heap.size

theorem DkC.mono {S T : Nat → Prop} {w : World} {d : Nat} {k : DS} (h : DkC S w d k) (hT : ∀ i, S i → T i) (hi : ∀ i, T i → i < w.heap.size) : DkC T w d k :=
  ⟨h.hd, h.hm, h.fs, h.ap, h.la, h.few, h.all, h.arm, hT _ h.Sd, hT _ h.Sm, fun r hr => ⟨hT _ (h.Sf r hr).1, fun g hg => hT _ ((h.Sf r hr).2 g hg)⟩, hi⟩

/-- Nothing of the disk's has turned. -/
theorem DkC.out {S X : Nat → Prop} {w w' : World} {d : Nat} {k : DS} (h : DkC S w d k) (hO : Out X w w') (hx : ∀ i, S i → ¬ X i) : DkC S w' d k :=
  ⟨(hO.block d (h.inn _ h.Sd) (hx _ h.Sd)).trans h.hd, ownsMap_out h.hm hO (hx _ h.Sm), fun r hr => (h.fs r hr).out hO (hx _ (h.Sf r hr).1) (fun g hg => hx _ ((h.Sf r hr).2 g hg)), h.ap, h.la, h.few, h.all, h.arm, h.Sd, h.Sm, h.Sf, fun i hi => Nat.lt_of_lt_of_le (h.inn i hi) hO.size⟩

theorem DkC.ne_m {S : Nat → Prop} {w : World} {d : Nat} {k : DS} (h : DkC S w d k) : k.m ≠ d := fun e => by
  obtain ⟨es, clock, hb, _⟩ := h.hm
  rw [e, h.hd] at hb; cases hb
theorem FileAt.ne {w : World} {r : Rw} (h : FileAt w r) {j : Nat} {o : Obj} (hj : w.heap[j]? = some o) (ho : ∀ c z, o ≠ .cells c 79 z) : r.b ≠ j := fun e => by
  have := h.cell
  rw [e, hj] at this
  simp at this
  exact ho _ _ this
theorem FileAt.ne2 {w : World} {r : Rw} (h : FileAt w r) {j : Nat} {o : Obj} (hj : w.heap[j]? = some o) (ho : ∀ c z, o ≠ .cells c 5 z) : ∀ g, r.v.ownBlock = some g → g ≠ j := fun g hg e => by
  subst e
  rcases h.own.2 with ⟨hv, _⟩ | ⟨g', cap, cur, hv, _, hb, _⟩
  · rw [hv] at hg; simp [Value.ownBlock] at hg
  · rw [hv] at hg
    simp [Value.ownBlock] at hg
    subst hg
    rw [hj] at hb
    simp at hb
    exact ho _ _ hb

/-- The struct's own cells have turned. -/
theorem DkC.turnD {S : Nat → Prop} {w w' : World} {d : Nat} {k : DS} (h : DkC S w d k) (hO : Out (· = d) w w') (last : Option Nat) (arm : Nat) (dn : Bool)
    (hd : w'.heap[d]? = some (.cells #[.map (some k.m), ptrV last, .int .i64 (arm : Int), .bool dn] 65 (0, 0))) (hla : ∀ b, last = some b → ∃ r ∈ k.rs, r.b = b) (harm : arm < 9223372036854775808) (hsz : w'.heap.size = w.heap.size) :
    DkC S w' d { k with last := last, arm := arm, dn := dn } :=
  ⟨hd, ownsMap_out h.hm hO h.ne_m, fun r hr => (h.fs r hr).out hO ((h.fs r hr).ne h.hd (by simp)) ((h.fs r hr).ne2 h.hd (by simp)), h.ap, hla, h.few, h.all, harm, h.Sd, h.Sm, h.Sf, fun i hi => by rw [hsz]; exact h.inn i hi⟩

theorem mem_repl {r x : Rw} {rs : List Rw} (h : x ∈ rs.map (repl r)) : x = r ∨ (x ∈ rs ∧ x.b ≠ r.b) := by
  obtain ⟨q, hq, rfl⟩ := List.mem_map.1 h
  unfold repl
  split
  · exact .inl rfl
  · exact .inr ⟨hq, by assumption⟩
theorem Apart.symm {x y : Rw} (h : Apart x y) : Apart y x := ⟨fun e => h.1 e.symm, fun g hg he => h.2 g he hg⟩
theorem apart_any : ∀ {t : List Rw}, t.Pairwise Apart → ∀ x ∈ t, ∀ y ∈ t, x = y ∨ Apart x y
  | [], _ => by simp
  | z :: t, h => by
    obtain ⟨h1, h2⟩ := List.pairwise_cons.1 h
    intro x hx y hy
    rcases List.mem_cons.1 hx with ex | hx'
    · rcases List.mem_cons.1 hy with ey | hy'
      · exact .inl (ex.trans ey.symm)
      · exact .inr (ex ▸ h1 y hy')
    · rcases List.mem_cons.1 hy with ey | hy'
      · exact .inr (ey ▸ (h1 x hx').symm)
      · exact apart_any h2 x hx' y hy'
theorem apart_eq {rs : List Rw} (h : rs.Pairwise Apart) {r q : Rw} (hr : r ∈ rs) (hq : q ∈ rs) (e : q.b = r.b) : q = r :=
  (apart_any h q hq r hr).resolve_right (fun ha => ha.1 e)
theorem apart_mem {rs : List Rw} (h : rs.Pairwise Apart) {r q : Rw} (hr : r ∈ rs) (hq : q ∈ rs) (hne : q.b ≠ r.b) : Apart r q ∧ Apart q r := by
  have h1 := (apart_any h q hq r hr).resolve_left (fun e => hne (by rw [e]))
  exact ⟨h1.symm, h1⟩
theorem apart_repl {rs : List Rw} (h : rs.Pairwise Apart) {r : Rw} (hr : ∀ q ∈ rs, q.b ≠ r.b → Apart r q ∧ Apart q r) : (rs.map (repl r)).Pairwise Apart := by
  refine List.pairwise_map.2 (h.imp_of_mem fun {x y} hx hy hxy => ?_)
  unfold repl
  by_cases e1 : x.b = r.b
  · have e2 : y.b ≠ r.b := fun e => hxy.1 (by rw [e1, e])
    rw [if_pos e1, if_neg e2]
    exact (hr y hy e2).1
  · by_cases e2 : y.b = r.b
    · rw [if_neg e1, if_pos e2]; exact (hr x hx e1).2
    · rw [if_neg e1, if_neg e2]; exact hxy

/-- A file's bytes have turned. -/
theorem DkC.turnF {S T : Nat → Prop} {w w' : World} {d : Nat} {k : DS} (h : DkC S w d k) {r r' : Rw} (hr : r ∈ k.rs) (hO : Out (fun i => i = r.b ∨ r.v.ownBlock = some i) w w') (hf : FileAt w' r') (hb : r'.b = r.b) (hn : r'.nm = r.nm)
    (hv : ∀ g, r'.v.ownBlock = some g → r.v.ownBlock = some g ∨ w.heap.size ≤ g) (hsum : sumLen (k.rs.map (repl r')) ≤ 16777216) (hT : ∀ i, S i → T i) (hv' : ∀ g, r'.v.ownBlock = some g → T g) (hi : ∀ i, T i → i < w'.heap.size) :
    DkC T w' d { k with rs := k.rs.map (repl r') } := by
  have hx : ∀ q ∈ k.rs, q.b ≠ r'.b → Apart r' q ∧ Apart q r' := fun q hq hne => by
    obtain ⟨h1, h2⟩ := apart_mem h.ap hr hq (by rw [← hb]; exact hne)
    have key : ∀ g, r'.v.ownBlock = some g → q.v.ownBlock ≠ some g := fun g hg he => by
      rcases hv g hg with h3 | h3
      · exact h1.2 g h3 he
      · have := h.inn g ((h.Sf q hq).2 g he); omega
    exact ⟨⟨fun e => hne e.symm, key⟩, ⟨hne, fun g hg he => key g he hg⟩⟩
  have hfr := h.fs r hr
  refine ⟨?_, ?_, ?_, apart_repl h.ap hx, ?_, by simpa using h.few, hsum, h.arm, hT _ h.Sd, hT _ h.Sm, ?_, hi⟩
  · refine (hO.block d (h.inn _ h.Sd) ?_).trans h.hd
    rintro (e | e)
    · exact hfr.ne h.hd (by simp) e.symm
    · exact hfr.ne2 h.hd (by simp) _ e rfl
  · have e : (k.rs.map (repl r')).map Rw.ent = k.rs.map Rw.ent := by
      rw [List.map_map]
      refine List.map_congr_left fun q hq => ?_
      show (repl r' q).ent = q.ent
      unfold repl
      split
      · rename_i e
        have : q = r := apart_eq h.ap hr hq (by rw [e, hb])
        rw [this]
        simp [Rw.ent, hn, hb]
      · rfl
    rw [e]
    have := ownsMap_out h.hm hO (b := k.m) (by
      obtain ⟨es, clock, hbm, _⟩ := h.hm
      rintro (e | e)
      · exact hfr.ne hbm (by simp) e.symm
      · exact hfr.ne2 hbm (by simp) _ e rfl)
    simpa using this
  · intro x hx'
    rcases mem_repl hx' with rfl | ⟨hq, hne⟩
    · exact hf
    · have ha := (apart_mem h.ap hr hq (by rw [← hb]; exact hne)).2
      refine (h.fs x hq).out hO ?_ ?_
      · rintro (e | e)
        · exact ha.1 e
        · obtain ⟨_, hbc, _⟩ := h.fs x hq
          exact hfr.ne2 (h.fs x hq).cell (by simp) _ e rfl
      · rintro g hg (e | e)
        · exact (h.fs x hq).ne2 hfr.cell (by simp) g hg e
        · exact ha.2 g hg e
  · intro b hb'
    obtain ⟨q, hq, hqb⟩ := h.la b hb'
    refine ⟨repl r' q, List.mem_map_of_mem hq, ?_⟩
    unfold repl
    split
    · rename_i e; rw [← e, hqb]
    · exact hqb
  · intro x hx'
    rcases mem_repl hx' with rfl | ⟨hq, _⟩
    · exact ⟨by rw [hb]; exact hT _ (h.Sf r hr).1, hv'⟩
    · exact ⟨hT _ (h.Sf x hq).1, fun g hg => hT _ ((h.Sf x hq).2 g hg)⟩

/-- The map has turned. -/
theorem DkC.turnM {S : Nat → Prop} {w w' : World} {d n : Nat} {k : DS} (h : DkC S w d k) (hO : Out (· = k.m) w w') (hsz : w'.heap.size = w.heap.size) (rs : List Rw) (hm : w'.ownsMap Try.prog 9 ptrElem k.m n (.map (rs.map Rw.ent)))
    (hfs : ∀ r ∈ rs, FileAt w r ∧ S r.b ∧ ∀ g, r.v.ownBlock = some g → S g) (hap : rs.Pairwise Apart) (hla : ∀ b, k.last = some b → ∃ r ∈ rs, r.b = b) (hfew : rs.length ≤ 256) (hall : sumLen rs ≤ 16777216) :
    DkC S w' d { k with rs := rs } := by
  obtain ⟨es, clock, hbm, _⟩ := id h.hm
  refine ⟨(hO.block d (h.inn _ h.Sd) (fun e => h.ne_m e.symm)).trans h.hd, ?_, fun r hr => (hfs r hr).1.out hO ((hfs r hr).1.ne hbm (by simp)) ((hfs r hr).1.ne2 hbm (by simp)), hap, hla, hfew, hall, h.arm, h.Sd, h.Sm, fun r hr => (hfs r hr).2, fun i hi => by rw [hsz]; exact h.inn i hi⟩
  have := ownsMap_tight hm
  simpa using this

/-- Behind a start w0: the disk is k, and nothing else has turned. -/
structure At (S : Nat → Prop) (w0 w : World) (d : Nat) (k : DS) : Prop where
  dk : DkC (grew S w0 w) w d k
  out : Out S w0 w
theorem At.start {S : Nat → Prop} {w : World} {d : Nat} {k : DS} (h : DkC S w d k) : At S w w d k :=
  ⟨h.mono (fun _ hi => .inl hi) (fun i hi => h.inn i (grew_refl hi)), Out.refl _ _⟩
theorem At.go {S : Nat → Prop} {w0 w w' : World} {d : Nat} {k k' : DS} (h : At S w0 w d k) (hO : Out (grew S w0 w) w w') (hk : DkC (grew S w0 w') w' d k') : At S w0 w' d k' := ⟨hk, h.out.step hO⟩

end Go.Proofs.Ytbjnhohfdpdcnaa
