/-
  The store in plain lists, and what a command does to it.
-/
import Derived.Test.YtglhjgfaelfleaaGreatKl
import Derived.Test.YtglhjgfaelfleaaGreatGb
namespace Go.Proofs.YtglhjgfaelfleaaGreat
open Go.RowKit

abbrev Bs := List UInt8
def str (l : Bs) : Value := .string ⟨l.toArray⟩
/-- A reply, a session, a store, a command. -/
structure Rp where
  code : Int
  val : Bs
deriving DecidableEq
structure Se where
  cl : Int
  sq : Int
  rp : Rp
deriving DecidableEq
structure KV where
  ps : List (Bs × Bs)
  ss : List Se
deriving DecidableEq
structure Cm where
  op : Int
  cl : Int
  sq : Int
  key : Bs
  val : Bs
  old : Bs
deriving DecidableEq
def Rp.v (r : Rp) : Value := .agg #[.int .i64 r.code, str r.val]
def Cm.v (c : Cm) : Value := .agg #[.int .i64 c.op, .int .i64 c.cl, .int .i64 c.sq, str c.key, str c.val, str c.old]
def Se.v (s : Se) : Value := .agg #[.int .i64 s.cl, .int .i64 s.sq, .int .i64 s.rp.code, str s.rp.val]
def pairV (p : Bs × Bs) : Value := .agg #[str p.1, str p.2]
def kP (p : Bs × Bs) : Lit := .string p.1
def kS (s : Se) : Lit := .int .i64 s.cl
def Cm.ck (c : Cm) : Nat := ckCommand c.op c.cl c.sq c.key c.val c.old
def rp0 : Rp := ⟨0, []⟩

abbrev lookP (k : Bs) (ps : List (Bs × Bs)) : Option (Bs × Bs) := lookK kP (.string k) ps
abbrev lookS (c : Int) (ss : List Se) : Option Se := lookK kS (.int .i64 c) ss

/-- What is answered without doing anything. -/
def settled (ss : List Se) (cl sq : Int) : Option Rp :=
  match lookS cl ss with
  | none => if 32 ≤ ss.length then some ⟨5, []⟩ else none
  | some s => if s.sq < sq then none else if sq = s.sq then some s.rp else some ⟨4, []⟩
/-- What a command does to the keys, and gets. -/
def opK (ps : List (Bs × Bs)) (c : Cm) : List (Bs × Bs) × Rp :=
  if c.op = 2 then (match lookP c.key ps with
    | none => if 128 ≤ ps.length then (ps, ⟨5, []⟩) else (putK kP (c.key, c.val) ps, ⟨1, []⟩)
    | some _ => (putK kP (c.key, c.val) ps, ⟨1, []⟩))
  else if c.op = 3 then (match lookP c.key ps with
    | none => (ps, ⟨2, []⟩)
    | some _ => (delK kP (.string c.key) ps, ⟨1, []⟩))
  else (match lookP c.key ps with
    | none => (ps, ⟨2, []⟩)
    | some p => if p.2 = c.old then (putK kP (c.key, c.val) ps, ⟨1, []⟩) else (ps, ⟨3, p.2⟩))
def doF (K : KV) (c : Cm) : KV × Rp :=
  if c.ck ≠ 0 then (K, rp0) else
  match settled K.ss c.cl c.sq with
  | some r => (K, r)
  | none => (⟨(opK K.ps c).1, putK kS ⟨c.cl, c.sq, (opK K.ps c).2⟩ K.ss⟩, (opK K.ps c).2)

/-- What may be in a store. -/
structure SeOk (s : Se) : Prop where
  cl : 1 ≤ s.cl ∧ s.cl ≤ 4611686018427387904
  sq : 1 ≤ s.sq ∧ s.sq ≤ 4611686018427387904
  code : s.rp.code = 1 ∨ s.rp.code = 2 ∨ s.rp.code = 3 ∨ s.rp.code = 5
  val : s.rp.val.length ≤ 1024
  no : s.rp.code ≠ 3 → s.rp.val = []
structure PrOk (p : Bs × Bs) : Prop where
  key : p.1 ≠ [] ∧ p.1.length ≤ 64
  val : p.2.length ≤ 1024
structure KV.Ok (K : KV) : Prop where
  few : K.ps.length ≤ 128
  fewS : K.ss.length ≤ 32
  pr : ∀ p ∈ K.ps, PrOk p
  se : ∀ s ∈ K.ss, SeOk s

theorem Ok0 : KV.Ok ⟨[], []⟩ := ⟨by simp, by simp, by simp, by simp⟩

theorem ck_ok {c : Cm} (h : c.ck = 0) : (2 ≤ c.op ∧ c.op ≤ 4) ∧ (1 ≤ c.cl ∧ c.cl ≤ 4611686018427387904) ∧ (1 ≤ c.sq ∧ c.sq ≤ 4611686018427387904) ∧ (c.key ≠ [] ∧ c.key.length ≤ 64) ∧ c.val.length ≤ 1024 ∧ c.old.length ≤ 1024 := by
  unfold Cm.ck ckCommand at h
  split at h
  · omega
  · rename_i h1
    split at h
    · omega
    · rename_i h2
      split at h
      · omega
      · rename_i h3
        split at h
        · omega
        · split at h
          · omega
          · split at h
            · omega
            · split at h
              · omega
              · simp [isIn] at h1 h2 h3
                refine ⟨?_, ?_, ?_, ⟨by assumption, by omega⟩, by omega, by omega⟩
                · omega
                · omega
                · omega

theorem settled_none {ss : List Se} {cl sq : Int} (h : settled ss cl sq = none) : (lookS cl ss = none ∧ ss.length < 32) ∨ ∃ s, lookS cl ss = some s ∧ s.sq < sq := by
  unfold settled at h
  split at h
  · rename_i h1
    split at h
    · cases h
    · exact .inl ⟨h1, by omega⟩
  · rename_i s h1
    split at h
    · rename_i h2; exact .inr ⟨s, h1, h2⟩
    · split at h <;> cases h

theorem opK_code (ps : List (Bs × Bs)) (c : Cm) (hp : ∀ p ∈ ps, PrOk p) : ((opK ps c).2.code = 1 ∨ (opK ps c).2.code = 2 ∨ (opK ps c).2.code = 3 ∨ (opK ps c).2.code = 5) ∧ (opK ps c).2.val.length ≤ 1024 ∧ ((opK ps c).2.code ≠ 3 → (opK ps c).2.val = []) := by
  unfold opK
  split
  · split
    · split <;> simp
    · simp
  · split
    · split <;> simp
    · split
      · simp
      · rename_i p hp'
        split
        · simp
        · have := (hp p (lookK_some hp').1).val
          simpa using this

theorem opK_len (ps : List (Bs × Bs)) (c : Cm) (hl : ps.length ≤ 128) : (opK ps c).1.length ≤ 128 := by
  unfold opK
  split
  · split
    · rename_i h
      split
      · exact hl
      · have := len_putK_new (κ := kP) (x := (c.key, c.val)) h
        show (putK kP _ _).length ≤ _
        omega
    · rename_i p h
      exact Nat.le_trans (len_putK_old (κ := kP) (x := (c.key, c.val)) h) hl
  · split
    · split
      · exact hl
      · exact Nat.le_trans (len_delK _ _) hl
    · split
      · exact hl
      · rename_i p h
        split
        · exact Nat.le_trans (len_putK_old (κ := kP) (x := (c.key, c.val)) h) hl
        · exact hl

theorem opK_mem (ps : List (Bs × Bs)) (c : Cm) {p : Bs × Bs} (h : p ∈ (opK ps c).1) : p = (c.key, c.val) ∨ p ∈ ps := by
  unfold opK at h
  split at h
  · split at h
    · split at h
      · exact .inr h
      · exact mem_putK h
    · exact mem_putK h
  · split at h
    · split at h
      · exact .inr h
      · exact .inr (mem_delK.1 h).1
    · split at h
      · exact .inr h
      · split at h
        · exact mem_putK h
        · exact .inr h

theorem doF_ok {K : KV} (h : K.Ok) (c : Cm) : (doF K c).1.Ok := by
  unfold doF
  split
  · exact h
  · rename_i hc
    have hc0 : c.ck = 0 := by simpa using hc
    obtain ⟨_, k2, k3, k4, k5, k6⟩ := ck_ok hc0
    split
    · exact h
    · rename_i hs
      obtain ⟨c1, c2, c3⟩ := opK_code K.ps c h.pr
      refine ⟨opK_len K.ps c h.few, ?_, fun p hp => ?_, fun s hs' => ?_⟩
      · show (putK kS _ _).length ≤ 32
        rcases settled_none hs with ⟨h1, h2⟩ | ⟨s, h1, _⟩
        · have := len_putK_new (κ := kS) (x := ⟨c.cl, c.sq, (opK K.ps c).2⟩) h1
          omega
        · exact Nat.le_trans (len_putK_old (κ := kS) (x := ⟨c.cl, c.sq, (opK K.ps c).2⟩) h1) h.fewS
      · rcases opK_mem K.ps c hp with rfl | hp'
        · exact ⟨k4, k5⟩
        · exact h.pr p hp'
      · rcases mem_putK hs' with rfl | hs''
        · exact ⟨k2, k3, c1, c2, c3⟩
        · exact h.se s hs''
end Go.Proofs.YtglhjgfaelfleaaGreat
