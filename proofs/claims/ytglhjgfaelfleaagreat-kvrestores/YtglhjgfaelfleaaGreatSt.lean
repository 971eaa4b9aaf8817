/-
  What may turn; a store in memory.
-/
import Derived.Test.YtglhjgfaelfleaaGreatSk
import Derived.Test.YtglhjgfaelfleaaGreatGb
import Derived.Deep.RegionHeld3
import Derived.Deep.RegionLaw
import Derived.Maps.Ext
namespace Go.Proofs.YtglhjgfaelfleaaGreat
open Go.RowKit

/-! ### what may turn -/
/-- Blocks outside X are as they were. -/
structure Out (X : Nat → Prop) (w w' : World) : Prop where
  os : w'.os = w.os
  tape : w'.tape = w.tape
  output : w'.output = w.output
  size : w.heap.size ≤ w'.heap.size
  block : ∀ i, i < w.heap.size → ¬ X i → w'.heap[i]? = w.heap[i]?

/-- The blocks of X, and those that are new. -/
def grew (X : Nat → Prop) (w w' : World) : Nat → Prop := fun i => X i ∨ (w.heap.size ≤ i ∧ i < w'.heap.size)

theorem Out.refl (X : Nat → Prop) (w : World) : Out X w w := ⟨rfl, rfl, rfl, Nat.le_refl _, fun _ _ _ => rfl⟩
theorem Out.trans {X Y : Nat → Prop} {a b c : World} (h : Out X a b) (k : Out Y b c) (hY : ∀ i, Y i → i < a.heap.size → X i) : Out X a c :=
  ⟨k.os.trans h.os, k.tape.trans h.tape, k.output.trans h.output, Nat.le_trans h.size k.size, fun i hi hx => (k.block i (Nat.lt_of_lt_of_le hi h.size) (fun hy => hx (hY i hy hi))).trans (h.block i hi hx)⟩
theorem Out.mono {X Y : Nat → Prop} {a b : World} (h : Out X a b) (hX : ∀ i, X i → Y i) : Out Y a b := ⟨h.os, h.tape, h.output, h.size, fun i hi hy => h.block i hi (fun hx => hy (hX i hx))⟩
theorem Out.grown {X : Nat → Prop} {a b : World} {row : Option Nat} (h : a.grownBy b row) (hr : ∀ j, row = some j → X j) : Out X a b :=
  ⟨h.os, h.tape, h.output, h.size, fun i hi hx => h.block i hi (fun e => hx (hr i e.symm))⟩
theorem Out.of_below {X : Nat → Prop} {a b : World} (h : Below a.heap.size a b) : Out X a b := ⟨h.os, h.tape, h.output, h.size, fun i hi _ => h.block i hi⟩
theorem Out.below {X : Nat → Prop} {a b : World} {N : Nat} (h : Out X a b) (hN : N ≤ a.heap.size) (hX : ∀ i, X i → N ≤ i) : Below N a b :=
  ⟨h.os, h.tape, h.output, h.size, fun i hi => h.block i (by omega) (fun hx => by have := hX i hx; omega)⟩
theorem Out.set {X : Nat → Prop} {w : World} {b o : Nat} {u : Value} (hb : X b) : Out X w (w.setCell ⟨b, o, none⟩ u) :=
  ⟨rfl, rfl, rfl, by simp [World.setCell], fun i _ hx => Below.heap_setCell _ _ _ _ (fun e => hx (by rw [e]; exact hb))⟩
theorem Out.step {X : Nat → Prop} {a b c : World} (h : Out X a b) (k : Out (grew X a b) b c) : Out X a c :=
  h.trans k (fun i hi hl => hi.elim id (fun h2 => absurd h2.1 (by omega)))
theorem grew_refl {X : Nat → Prop} {w : World} {i : Nat} (h : grew X w w i) : X i := h.elim id (fun h2 => absurd h2.2 (by omega))
theorem grew_mono {X : Nat → Prop} {w a b : World} (h : a.heap.size ≤ b.heap.size) {i : Nat} (hi : grew X w a i) : grew X w b i := hi.imp id (fun h2 => ⟨h2.1, by omega⟩)

theorem size_set (W : World) (a : Addr) (u : Value) : (W.setCell a u).heap.size = W.heap.size := by simp [World.setCell]
theorem Out.put {X : Nat → Prop} {w a : World} {b o : Nat} {u : Value} (h : Out X w a) (hb : X b) : Out X w (a.setCell ⟨b, o, none⟩ u) := h.trans (Out.set (X := X) hb) (fun _ hi _ => hi)
theorem Out.drew {X : Nat → Prop} (w : World) (n : Nat) : Out X w (w.drewN n) := ⟨rfl, rfl, rfl, Nat.le_refl _, fun _ _ _ => rfl⟩
theorem Out.alloc {X : Nat → Prop} {w a : World} (h : Out X w a) (o : Obj) : Out X w (a.alloc o) := h.trans (Y := fun _ => False) (Out.of_below ((Below.refl _ _).alloc (Nat.le_refl _) _)) (fun _ h _ => h.elim)


theorem ownsMap_out {X : Nat → Prop} {w w' : World} {k : TypeId} {b n : Nat} {D : DataW Value} (h : w.ownsMap Tryz.prog k rdV b n D) (hO : Out X w w') (hx : ¬ X b) : w'.ownsMap Tryz.prog k rdV b n D := by
  have hlt := h.lt
  obtain ⟨es, clock, hb, r⟩ := h
  exact ⟨es, clock, (hO.block b hlt hx).trans hb, r⟩
theorem ownsMap_tight {w : World} {k : TypeId} {b n : Nat} {es : List (Lit × DataW Value)} (h : w.ownsMap Tryz.prog k rdV b n (.map es)) : w.ownsMap Tryz.prog k rdV b es.length (.map es) := by
  obtain ⟨e, clock, hb, F, hs, hD⟩ := h
  refine ⟨e, clock, hb, F, ?_, hD⟩
  have := congrArg Maps.size hD
  simp only [Maps.size_eq, length_sorted] at this
  simp at this
  omega

/-- Block b holds a store. -/
structure St (w : World) (b mp ms : Nat) (K : KV) : Prop where
  hd : w.heap[b]? = some (.cells #[.map (some mp), .map (some ms)] 77 (0, 0))
  hp : w.ownsMap Tryz.prog 9 rdV mp K.ps.length (entsL kP pairV K.ps)
  hs : w.ownsMap Tryz.prog 3 rdV ms K.ss.length (entsL kS Se.v K.ss)
  ne : mp ≠ ms
  ok : K.Ok

/-- The blocks that a store may turn. -/
def Mx (mp ms : Nat) : Nat → Prop := fun i => i = mp ∨ i = ms

theorem St.nb {w : World} {b mp ms : Nat} {K : KV} (h : St w b mp ms K) : b ≠ mp ∧ b ≠ ms := by
  obtain ⟨es, clock, hb, _⟩ := h.hp
  obtain ⟨es', clock', hb', _⟩ := h.hs
  have := h.hd
  exact ⟨fun e => (by rw [e, hb] at this; cases this), fun e => (by rw [e, hb'] at this; cases this)⟩
theorem St.lt {w : World} {b mp ms : Nat} {K : KV} (h : St w b mp ms K) : b < w.heap.size ∧ mp < w.heap.size ∧ ms < w.heap.size := ⟨(Array.getElem?_eq_some_iff.1 h.hd).1, h.hp.lt, h.hs.lt⟩
theorem St.out {X : Nat → Prop} {w w' : World} {b mp ms : Nat} {K : KV} (h : St w b mp ms K) (hO : Out X w w') (h1 : ¬ X b) (h2 : ¬ X mp) (h3 : ¬ X ms) : St w' b mp ms K :=
  ⟨(hO.block b h.lt.1 h1).trans h.hd, ownsMap_out h.hp hO h2, ownsMap_out h.hs hO h3, h.ne, h.ok⟩
theorem St.below {w w' : World} {b mp ms : Nat} {K : KV} (h : St w b mp ms K) (hB : Below w.heap.size w w') : St w' b mp ms K :=
  h.out (X := fun _ => False) (Out.of_below hB) id id id
theorem St.alloc {w : World} {b mp ms : Nat} {K : KV} (h : St w b mp ms K) (o : Obj) : St (w.alloc o) b mp ms K := h.below ((Below.refl _ _).alloc (Nat.le_refl _) _)
theorem St.drewN {w : World} {b mp ms : Nat} {K : KV} (h : St w b mp ms K) (n : Nat) : St (w.drewN n) b mp ms K := h.out (X := fun _ => False) (Out.drew w n) id id id
theorem St.cells {w : World} {b mp ms : Nat} {K : KV} (h : St w b mp ms K) : w.cell? ⟨b, 0, none⟩ = some (.map (some mp)) ∧ w.cell? ⟨b, 1, none⟩ = some (.map (some ms)) := by
  constructor <;> (simp only [World.cell?, h.hd]; rfl)
theorem canon_ris {α : Type} {κ : α → Lit} {ν : α → Value} {xs : List α} (h : Maps.Canon (entsL κ ν xs)) : Ris κ xs := by
  obtain ⟨es, e, hp, _⟩ := h
  cases e
  unfold Ris
  rw [List.pairwise_map] at hp
  exact hp
theorem lawS : Maps.Keyed Tryz.prog 9 := Maps.string_keyed Tryz.underlying9
theorem lawI : Maps.Keyed Tryz.prog 3 := Maps.int_keyed Tryz.underlying3
theorem St.risP {w : World} {b mp ms : Nat} {K : KV} (h : St w b mp ms K) : Ris kP K.ps := canon_ris (h.hp.canon lawS)
theorem St.risS {w : World} {b mp ms : Nat} {K : KV} (h : St w b mp ms K) : Ris kS K.ss := canon_ris (h.hs.canon lawI)

theorem keyS (k : Bs) (hk : k.length ≤ 1099511627776) : keyOf Tryz.prog 9 (.string ⟨k.toArray⟩) = some (.string k) := by
  simp [keyOf, Tryz.underlying9, mapKey, maxLen, ByteArray.size]
  omega
theorem keyI (n : Int) (hn : 0 ≤ n ∧ n ≤ 4611686018427387904) : keyOf Tryz.prog 3 (.int .i64 n) = some (.int .i64 n) :=
  Maps.keyOf_int_mk Tryz.underlying3 (by simp [Lit.wf, IntKind.min, IntKind.max, IntKind.bits, IntKind.signed]; omega)

def pvOf : Option (Bs × Bs) → Value
  | none => .agg #[.string ⟨[].toArray⟩, .string ⟨[].toArray⟩]
  | some p => .agg #[.string ⟨p.1.toArray⟩, .string ⟨p.2.toArray⟩]
def svOf : Option Se → Value
  | none => .agg #[.int .i64 0, .int .i64 0, .int .i64 0, .string ⟨[].toArray⟩]
  | some s => .agg #[.int .i64 s.cl, .int .i64 s.sq, .int .i64 s.rp.code, .string ⟨s.rp.val.toArray⟩]
theorem zeroP (w : World) : (zeroValue 74).run Tryz.prog w = .ok (.agg #[.string ⟨[].toArray⟩, .string ⟨[].toArray⟩]) w := by kernel_rfl
theorem zeroS (w : World) : (zeroValue 79).run Tryz.prog w = .ok (.agg #[.int .i64 0, .int .i64 0, .int .i64 0, .string ⟨[].toArray⟩]) w := by kernel_rfl

theorem St.lookP {w : World} {b mp ms : Nat} {K : KV} (h : St w b mp ms K) (k : Bs) (hk : k.length ≤ 1099511627776) :
    (Instr.lookup 71 (.map (some mp)) (.string ⟨k.toArray⟩) true).run Tryz.prog w = .ok (.tuple #[pvOf (lookP k K.ps), .bool (lookP k K.ps).isSome]) w := by
  obtain ⟨v, ps, hr, hv⟩ := h.hp.look_ok lawS Tryz.underlying71 (zeroP w) (zd := .held _) (zp := []) rfl (keyS k hk)
  rw [hr, has_ents]
  rw [atKey_ents] at hv
  change _ = Result.ok (Value.tuple #[pvOf (lookK kP (.string k) K.ps), .bool (lookK kP (.string k) K.ps).isSome]) w
  generalize lookK kP (.string k) K.ps = q at hv ⊢
  cases q with
  | none => rw [rdV_inv hv]; rfl
  | some p => rw [rdV_inv hv]; rfl
theorem St.lookS {w : World} {b mp ms : Nat} {K : KV} (h : St w b mp ms K) (n : Int) (hn : 0 ≤ n ∧ n ≤ 4611686018427387904) :
    (Instr.lookup 75 (.map (some ms)) (.int .i64 n) true).run Tryz.prog w = .ok (.tuple #[svOf (lookS n K.ss), .bool (lookS n K.ss).isSome]) w := by
  obtain ⟨v, ps, hr, hv⟩ := h.hs.look_ok lawI Tryz.underlying75 (zeroS w) (zd := .held _) (zp := []) rfl (keyI n hn)
  rw [hr, has_ents]
  rw [atKey_ents] at hv
  change _ = Result.ok (Value.tuple #[svOf (lookK kS (.int .i64 n) K.ss), .bool (lookK kS (.int .i64 n) K.ss).isSome]) w
  generalize lookK kS (.int .i64 n) K.ss = q at hv ⊢
  cases q with
  | none => rw [rdV_inv hv]; rfl
  | some p => rw [rdV_inv hv]; rfl
theorem St.lenP {w : World} {b mp ms : Nat} {K : KV} (h : St w b mp ms K) (ty : TypeId) : (Builtin.len_ #[71] ty #[.map (some mp)]).run Tryz.prog w = .ok (.int .i64 (K.ps.length : Int)) w := by
  rw [h.hp.len Tryz.underlying71 ty, size_ents]
theorem St.lenS {w : World} {b mp ms : Nat} {K : KV} (h : St w b mp ms K) (ty : TypeId) : (Builtin.len_ #[75] ty #[.map (some ms)]).run Tryz.prog w = .ok (.int .i64 (K.ss.length : Int)) w := by
  rw [h.hs.len Tryz.underlying75 ty, size_ents]
theorem turned_out {w w' : World} {b : Nat} (h : w.mapTurned w' b) : Out (· = b) w w' := Out.grown h.grown (fun j e => by cases e; rfl)
theorem St.putP {w : World} {b mp ms : Nat} {K : KV} (h : St w b mp ms K) (k v : Bs) (hk : k.length ≤ 1099511627776) (hok : KV.Ok { K with ps := putK kP (k, v) K.ps }) :
    ∃ w', (Instr.mapUpdate 71 (.map (some mp)) (.string ⟨k.toArray⟩) (.agg #[.string ⟨k.toArray⟩, .string ⟨v.toArray⟩])).run Tryz.prog w = .ok () w' ∧ St w' b mp ms { K with ps := putK kP (k, v) K.ps } ∧ Out (· = mp) w w' ∧ w'.heap.size = w.heap.size := by
  obtain ⟨w', hr, h1, h2⟩ := h.hp.store lawS Tryz.underlying71 (by have := h.ok.few; unfold maxLen; omega) (val := .agg #[.string ⟨k.toArray⟩, .string ⟨v.toArray⟩]) (d := .held (pairV (k, v))) (ps := []) (keyS k hk) rfl
  have hO := turned_out h2
  have e : (entsL kP pairV K.ps).put (.string k) (.held (pairV (k, v))) = entsL kP pairV (putK kP (k, v) K.ps) := put_ents kP pairV K.ps (k, v)
  rw [e] at h1
  have h1' := ownsMap_tight h1
  rw [List.length_map] at h1'
  obtain ⟨es, cl, es', cl', _, hw⟩ := h2
  exact ⟨w', hr, ⟨(hO.block b h.lt.1 h.nb.1).trans h.hd, h1', ownsMap_out h.hs hO (fun e => h.ne e.symm), h.ne, hok⟩, hO, by rw [hw]; simp [Go.ChangeMaps.setBlock]⟩
theorem St.putS {w : World} {b mp ms : Nat} {K : KV} (h : St w b mp ms K) (s : Se) (hn : 0 ≤ s.cl ∧ s.cl ≤ 4611686018427387904) (hok : KV.Ok { K with ss := putK kS s K.ss }) :
    ∃ w', (Instr.mapUpdate 75 (.map (some ms)) (.int .i64 s.cl) (.agg #[.int .i64 s.cl, .int .i64 s.sq, .int .i64 s.rp.code, .string ⟨s.rp.val.toArray⟩])).run Tryz.prog w = .ok () w' ∧ St w' b mp ms { K with ss := putK kS s K.ss } ∧ Out (· = ms) w w' ∧ w'.heap.size = w.heap.size := by
  obtain ⟨w', hr, h1, h2⟩ := h.hs.store lawI Tryz.underlying75 (by have := h.ok.fewS; unfold maxLen; omega) (val := .agg #[.int .i64 s.cl, .int .i64 s.sq, .int .i64 s.rp.code, .string ⟨s.rp.val.toArray⟩]) (d := .held s.v) (ps := []) (keyI s.cl hn) rfl
  have hO := turned_out h2
  have e : (entsL kS Se.v K.ss).put (.int .i64 s.cl) (.held s.v) = entsL kS Se.v (putK kS s K.ss) := put_ents kS Se.v K.ss s
  rw [e] at h1
  have h1' := ownsMap_tight h1
  rw [List.length_map] at h1'
  obtain ⟨es, cl, es', cl', _, hw⟩ := h2
  exact ⟨w', hr, ⟨(hO.block b h.lt.1 h.nb.2).trans h.hd, ownsMap_out h.hp hO h.ne, h1', h.ne, hok⟩, hO, by rw [hw]; simp [Go.ChangeMaps.setBlock]⟩
theorem St.delP {w : World} {b mp ms : Nat} {K : KV} (h : St w b mp ms K) (k : Bs) (hk : k.length ≤ 1099511627776) (ty : TypeId) (hok : KV.Ok { K with ps := delK kP (.string k) K.ps }) :
    ∃ w', (Builtin.delete_ #[71, 9] ty #[.map (some mp), .string ⟨k.toArray⟩]).run Tryz.prog w = .ok (.tuple #[]) w' ∧ St w' b mp ms { K with ps := delK kP (.string k) K.ps } ∧ Out (· = mp) w w' ∧ w'.heap.size = w.heap.size := by
  obtain ⟨w', hr, h1, h2⟩ := h.hp.drop lawS Tryz.underlying71 (keyS k hk) ty
  have hO := turned_out h2
  rw [del_ents] at h1
  have h1' := ownsMap_tight h1
  rw [List.length_map] at h1'
  obtain ⟨es, cl, es', cl', _, hw⟩ := h2
  exact ⟨w', hr, ⟨(hO.block b h.lt.1 h.nb.1).trans h.hd, h1', ownsMap_out h.hs hO (fun e => h.ne e.symm), h.ne, hok⟩, hO, by rw [hw]; simp [Go.ChangeMaps.setBlock]⟩
end Go.Proofs.YtglhjgfaelfleaaGreat
