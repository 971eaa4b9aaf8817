/-
  What a disk is told: an operation, operations one behind the other. List, Files: what a disk tells of its files. Whether two lists of files are the same: the document's. Operations in memory; few, made; the chapter's example. The chapter's example: 'first' is true.
-/
import Derived.Test.YtnahghldlkjleaaGreatDoorJDc
import Derived.Test.YtnahghldlkjleaaGreatDoorJDb
import Derived.Test.YtnahghldlkjleaaGreatDoorSrt
import Derived.Deep.RegionHeld3
namespace Go.Proofs.YtnahghldlkjleaaGreatDoor
open Go.RowKit

/-- An operation, as it lies in memory. -/
structure Opn where
  kd : Int
  n : Int
  nm : List UInt8
  to : List UInt8
  a : Option Addr
  c : Nat
  b : List UInt8
def nilOp : Opn := ⟨0, 0, [], [], none, 0, []⟩
def Opn.x (o : Opn) : Value := .slice o.a o.b.length o.c
/-- What an operation does to a disk. -/
def toldP (p : PD) (o : Opn) : Nat × PD :=
  if o.kd = 0 then doCreate p o.nm else if o.kd = 1 then doAppend p o.nm o.b else if o.kd = 2 then doSync p o.nm else if o.kd = 3 then doCut p o.nm o.n else
  if o.kd = 4 then doRename p o.nm o.to else if o.kd = 5 then doRemove p o.nm else if o.kd = 6 then (0, { p with arm := o.n.toNat }) else if o.kd = 7 then (0, doCrash p o.n) else (0, p)

theorem At.trans {S : Nat → Prop} {w w0 w' : World} {d : Nat} {k k' : DS} (h : At S w w0 d k) (h' : At (grew S w w0) w0 w' d k') : At S w w' d k' := by
  refine ⟨h'.dk.mono (fun i hi => ?_) (fun i hi => ?_), h.out.step h'.out⟩
  · rcases hi with hi | hi
    · exact grew_mono h'.out.size hi
    · exact .inr ⟨Nat.le_trans h.out.size hi.1, hi.2⟩
  · rcases hi with hi | hi
    · exact Nat.lt_of_lt_of_le (h.dk.inn i (.inl hi)) h'.out.size
    · exact hi.2
theorem Done.trans {S : Nat → Prop} {w w0 w' : World} {d : Nat} {k : DS} {x : Nat × PD} {r : Ending} (h : At S w w0 d k) (h' : Done (grew S w w0) w0 d x r w') : Done S w d x r w' := by
  obtain ⟨k', h1, h2, h3⟩ := h'
  exact ⟨k', h1, h.trans h2, h3⟩
theorem SlX.grew {S : Nat → Prop} {w w' : World} {v : Value} {l : List UInt8} (h : SlX S w v l) (hO : Out S w w') : SlX (grew S w w') w' v l := by
  obtain ⟨a, cap, rfl, h1, h2, h3⟩ := h
  refine ⟨a, cap, rfl, h1, h2, h3.imp id ?_⟩
  rintro ⟨b, off, ha, hb, hlt, hc⟩
  exact ⟨b, off, ha, fun hg => hg.elim hb (fun h9 => by omega), Nat.lt_of_lt_of_le hlt hO.size, fun i hi => (World.cell?_of_block (a := ⟨b, off + i, none⟩) (hO.block b hlt hb)).trans (hc i hi)⟩

end Go.Proofs.YtnahghldlkjleaaGreatDoor
namespace Go.Proofs.YtnahghldlkjleaaGreatDoor
open Go.RowKit

theorem info9 : (Tryz.prog.info? 9).map (fun i => (i.zero, i.size, i.bytes)) = some (some (.string ByteArray.empty), 1, 16) := by kernel_rfl
theorem strKeys_ents (rs : List Rw) : strKeys (.map (rs.map Rw.ent)) = rs.map Rw.nm := by
  show (rs.map Rw.ent).map (fun p => strOf p.1) = _
  rw [List.map_map]; rfl
theorem before_le {a b : List UInt8} (h : bytesBefore a b = true) : leB a b = true := by
  simp only [leB, decide_eq_true_eq]
  induction a generalizing b with
  | nil => exact List.nil_le _
  | cons x r ih =>
    cases b with
    | nil => simp [bytesBefore] at h
    | cons y s =>
      simp [bytesBefore] at h
      rw [List.cons_le_cons_iff]
      rcases h with h | ⟨h1, h2⟩
      · exact .inl h
      · exact .inr ⟨h1, ih h2⟩
theorem DkC.sorted {S : Nat → Prop} {w : World} {d : Nat} {k : DS} (h : DkC S w d k) : (k.rs.map Rw.nm).mergeSort leB = k.rs.map Rw.nm :=
  List.mergeSort_of_pairwise (List.pairwise_map.2 (h.rise.imp (fun hab => before_le hab)))

/-- v is a new slice of these texts. -/
def TextsIn (N : Nat) (w : World) (v : Value) (ts : List (List UInt8)) : Prop := w.ownsRow N 9 1 v ts.length (ts.map encStr)

theorem row_kept {N : Nat} {w w' : World} {e : TypeId} {sz : Nat} {v : Value} {n : Nat} {xs : List Value} {r : Nat} (h : w.ownsRow N e sz v n xs) (hg : w.grownBy w' (some r)) (hne : some r ≠ v.ownBlock) : w'.ownsRow N e sz v n xs :=
  World.ownsRow.kept h hg (by cases hb : v.ownBlock with | none => exact .inl rfl | some j => exact .inr (fun e => hne (by rw [hb]; exact e.symm)))

set_option maxRecDepth 100000 in
set_option maxHeartbeats 8000000 in
theorem list_any {S : Nat → Prop} {w : World} {d : Nat} {k : DS} (h : DkC S w d k) : Calls Tryz.prog 59 #[.pointer (some ⟨d, 0, none⟩)] w fun r w' => ∃ v, r = .returned v ∧ TextsIn w.heap.size w' v (k.rs.map Rw.nm) ∧ Below w.heap.size w w' := by
  obtain ⟨⟨c0, -⟩, -⟩ := h.cells
  obtain ⟨i0, hi, hz0, hz1, hz2⟩ := info_parts info9
  have hm := h.hm
  have hmS := h.inn _ h.Sm
  have hfew := h.few
  have HD : Hid (DkC S w d k) := h
  have HM : Hid (w.ownsMap Tryz.prog 9 ptrElem k.m k.rs.length (.map (k.rs.map Rw.ent))) := hm
  clear h
  go_enter Tryz.func59, Tryz.ntmps59
  go_wp2_with (first
    | (at_range; refine wpList_range_own _ rfl _ 98 rfl 9 99 law9 Tryz.underlying98 ptrElem k.m k.rs.length _ rfl hm ?_; intro w1 hrg0 hg0 hs0)
    | go_in)
  go_frame
  go_loopw [3] (fun sv wr => ∃ (left : Lit → Bool) (cnt : Nat) (ss : List (List UInt8)), wr.ranges Tryz.prog 9 ptrElem k.m w.heap.size k.rs.length (.map (k.rs.map Rw.ent)) left cnt ∧ Collected (.map (k.rs.map Rw.ent)) left ss ∧ w.grownBy wr none ∧ wr.ownsRow w.heap.size 9 1 sv ss.length (ss.map encStr) ∧ ss.length + cnt ≤ k.rs.length)
    (fun _ wr => wr.rangeLeft k.m w.heap.size)
  case atStart => exact ⟨_, _, [], hrg0, Collected.start _, hg0, World.ownsRow_nil _ _ _ _, by simp [Maps.size_eq]⟩
  case round =>
    obtain ⟨left, cnt, ss, hrg, hC, hgw, hrow, hcnt⟩ := hrel
    have HC : Hid (Collected (.map (k.rs.map Rw.ent)) left ss) := hC
    have HROW : Hid (wr.ownsRow w.heap.size 9 1 u3 ss.length (ss.map encStr)) := hrow
    have HRG : Hid (wr.ranges Tryz.prog 9 ptrElem k.m w.heap.size k.rs.length (.map (k.rs.map Rw.ent)) left cnt) := hrg
    have HGW : Hid (w.grownBy wr none) := hgw
    clear hC hgw
    go_wp2_with (first
      | (at_next; refine wpList_next_disk rfl _ rfl k.m w.heap.size k.rs.length k.rs left cnt rfl hrg ?_ ?_)
      | go_in)
    · intro _ hl0
      have hperm := HC.out.perm HRG.out.owns law9 Tryz.underlying9 hl0
      rw [strKeys_ents] at hperm
      have HS : Hid (ss.mergeSort leB = k.rs.map Rw.nm) := (mergeSort_of_perm hperm).trans HD.out.sorted
      have HL : Hid (ss.length = (k.rs.map Rw.nm).length) := hperm.length_eq
      have HG : Hid (Below w.heap.size w wr) := (Below.refl _ w).grown HGW.out (Nat.le_refl _) (fun k e => by cases e)
      rcases hrow.2 with ⟨hnil, hz⟩ | ⟨g, cap, cur, hv, hbase, hb, h1, h2, h3, h4⟩
      · subst hnil
        have hse : ss = [] := List.length_eq_zero_iff.1 hz
        go_wp2_with (go_at_call 100; refine (sort_nil none 0 _).mono ?_; rintro e w' ⟨rfl, rfl⟩)
        go_ret
        refine ⟨_, rfl, ?_, HG.out⟩
        have e1 := HL.out
        rw [hse] at e1
        have : k.rs.map Rw.nm = [] := List.length_eq_zero_iff.1 e1.symm
        rw [this]
        exact World.ownsRow_nil _ _ _ _
      · subst hv
        have hs := sort_any g 0 cap ss wr (holds_of_block hb (by simpa using h4)) (Array.getElem?_eq_some_iff.1 hb).1 (by omega)
        have HO : Hid (∀ n os, (Go.Sort.grow (Go.Sort.putRow encStr (Go.Sort.ahead wr n) g 0 (ss.mergeSort leB).toArray) os).ownsRow w.heap.size 9 1 (.slice (some ⟨g, 0, none⟩) ss.length cap) ss.length ((ss.mergeSort leB).map encStr)) := fun n os => ownsRow_sorted (by simp) hbase hb h1 h2 h3
        have HBB : Hid (∀ n os, Below w.heap.size w (Go.Sort.grow (Go.Sort.putRow encStr (Go.Sort.ahead wr n) g 0 (ss.mergeSort leB).toArray) os)) := fun n os => HG.out.grown (grownBy_sorted _) HG.out.size (fun j hj => by cases hj; exact hbase)
        clear hb h4 hrow
        go_wp2_with (go_at_call 100; refine hs.mono ?_; rintro e w' ⟨rfl, nn, os, rfl⟩)
        go_ret
        refine ⟨_, rfl, ?_, HBB.out _ _⟩
        have := HO.out nn os
        rw [HS.out, HL.out] at this
        rw [HS.out, HL.out]
        exact this
    · intro f w2 cnt2 hf hlk hfl hleft hrg2 hlt hg2 hs2 hen
      have hgw2 := HGW.out.andThen hg2 (fun j hj => by cases hj; exact Or.inl (Nat.le_refl _))
      have hrow2 := row_kept HROW.out hg2 (row_ne_iter HROW.out HRG.out)
      have HC2 : Hid (Collected (.map (k.rs.map Rw.ent)) (fun z => left z && !z.sameKey (.string f.nm)) (ss ++ [f.nm])) := HC.out.step (y := .lit (.int .i64 (f.b : Int))) hleft (fun zd => by rw [atKey_ents, hlk])
      have hiter := row_ne_iter hrow2 hrg2
      have hlow : some k.m ≠ Value.ownBlock u3 := row_ne_low hrow2 hmS
      have hsz2 : w.heap.size ≤ w2.heap.size := hgw2.size
      clear hs2 hlk hrow hleft hg2
      go_wp2_with (first
        | (at_builtin; refine wpList_append_own_at _ rfl _ _ 76 rfl w.heap.size 9 i0 (.string ByteArray.empty) 1 16 Tryz.underlying76 hi hz0 hz1 hz2 rfl (by decide) _ _ _ rfl (World.ownsRow.alloc hrow2 _) ⟨w2.heap.size, 0, none⟩ 1 1 [.string ⟨f.nm.toArray⟩] rfl rfl (cell_one_new _ _ _) (by simp [Value.oneCell']) (by unfold maxLen; omega) (by omega) (by simp; omega) ?_; intro v' w3 hown3 hg3 hnil3 hloc3)
        | go_in)
      have hrg3 := (hrg2.alloc (.cells #[.string ⟨f.nm.toArray⟩] 9)).kept hg3 hlow hiter
      refine ⟨⟨_, cnt2, ss ++ [f.nm], hrg3, HC2.out, (hgw2.andThen (World.grownBy_alloc w2 _ none) (by simp)).andThen hg3 (fun j hj => .inl (World.ownsRow.lt hrow2 j hj).1), by simpa using hown3, by simp; omega⟩, ?_⟩
      rw [hrg3.left_eq, HRG.out.left_eq]
      exact hlt

/-- A file as it lies in memory, handed out. -/
structure Fl where
  nm : List UInt8
  a : Option Addr
  c : Nat
  dat : List UInt8
  syn : Int
def Fl.x (f : Fl) : Value := .slice f.a f.dat.length f.c
def Fl.cells (f : Fl) : List Value := [.string ⟨f.nm.toArray⟩, f.x, .int .i64 f.syn]
/-- What it says. -/
def Fl.says (f : Fl) : List UInt8 × List UInt8 × Int := (f.nm, f.dat, f.syn)
def PF.says (f : PF) : List UInt8 × List UInt8 × Int := (f.nm, f.dat, (f.syn : Int))
def Rw.says (r : Rw) : List UInt8 × List UInt8 × Int := (r.nm, r.dat, (r.syn : Int))
def cellsOf (fs : List Fl) : List Value := (fs.map Fl.cells).flatten
/-- v is a new slice of files. -/
structure FilesIn (N : Nat) (w : World) (v : Value) (fs : List Fl) : Prop where
  row : w.ownsRow N 57 3 v fs.length (cellsOf fs)
  own : ∀ f ∈ fs, Ow N w f.x f.dat

theorem info37 : (Tryz.prog.info? 57).map (fun i => (i.zero, i.size, i.bytes)) = some (some (.agg #[.string ByteArray.empty, .slice none 0 0, .int .i64 0]), 3, 48) := by kernel_rfl

theorem step_append_fl {ops : Array Oper} {o : Oper} {a : Act} {w : World} {K : Act → World → Prop} {Q : Exit → Act → World → Prop} {E : Prop}
    (hg : o.guard = none) (s x : Operand) (hop : o.op = Op.call { callee := Callee.builtin Builtin.append, args := #[s, x], argTypes := #[28, 28] })
    (N : Nat) (v : Value) (n : Nat) (xs : List Value) (hs : a.eval s = v) (hv : w.ownsRow N 57 3 v n xs) (g : Nat) (hx : a.eval x = .slice (some ⟨g, 0, none⟩) 1 1) (f : Fl) (hc : w.heap[g]? = some (.cells #[.string ⟨f.nm.toArray⟩, f.x, .int .i64 f.syn] 57 (0, 0))) (hlen : n ≤ 1000) (hN : N ≤ w.heap.size)
    (hK : ∀ v' w', w'.ownsRow N 57 3 v' (n + 1) (xs ++ f.cells) → w.grownBy w' v.ownBlock → (v'.ownBlock = v.ownBlock ∨ v'.ownBlock = some w.heap.size) → K (a.put o.dst v') w') :
    if Region.wanted o (yielded ops a.tmps) = true then Oper.wp Tryz.prog o a w K Q else E := by
  have hw : Region.wanted o (yielded ops a.tmps) = true := by simp [Region.wanted, hg]
  rw [if_pos hw]
  obtain ⟨i0, hi, hz0, hz1, hz2⟩ := info_parts info37
  obtain ⟨v', w', hr, h2, h3, _, h4⟩ := run_append_own_at (P := Tryz.prog) w N 28 o.type 57 i0 _ 3 48 Tryz.underlying28 hi hz0 hz1 hz2 rfl (by decide) v n xs hv ⟨g, 0, none⟩ 1 1 f.cells rfl (fun j u hj => by
    have : w.cell? ((⟨g, 0, none⟩ : Addr).add j) = #[Value.string ⟨f.nm.toArray⟩, f.x, .int .i64 f.syn][j]? := by
      rw [Addr.add_lit]
      simp [World.cell?, hc]
    rw [this]
    simpa [Fl.cells] using hj) (fun u hu => by simp [Fl.cells, Fl.x] at hu; rcases hu with rfl | rfl | rfl <;> rfl) (by unfold maxLen; omega) (by omega) hN
  unfold Oper.wp
  simp [execOp, hop, resolve, invoke, builtin, hs, hx, hr, Result.andThen]
  exact hK v' w' h2 h3 h4

section
variable {ops : Array Oper} {rest : List Oper} {o : Oper} {a : Act} {Q : Exit → Act → World → Prop} {w : World}
theorem wpList_look1_some (hg : o.guard = none) (m x : Operand) (hop : o.op = Op.lookup 98 m x false) (B n : Nat) (rs : List Rw) (hm : a.eval m = .map (some B)) (hown : w.ownsMap Tryz.prog 9 ptrElem B n (.map (rs.map Rw.ent))) (nm : List UInt8) (hx : a.eval x = .string ⟨nm.toArray⟩) (hn : nm.length ≤ maxLen) (r : Rw) (hf : look nm rs = some r)
    (hK : wpList Tryz.prog ops Q rest (a.put o.dst (.pointer (some ⟨r.b, 0, none⟩))) w) : wpList Tryz.prog ops Q (o :: rest) a w := by
  refine wpList_plain hg fun K' hK' => ?_
  obtain ⟨v, ps, hrun, hv⟩ := World.ownsMap.lookup hown law9 Tryz.underlying98 (zero63 w) (zd := .nil) (zp := []) rfl (key9 nm hn)
  rw [atKey_ents, hf] at hv
  rw [ptrElem_at hv] at hrun
  unfold Oper.wp
  simp [execOp, hop, hm, hx, hrun, Result.andThen]
  exact hK' _ _ hK
end

theorem row_below {N : Nat} {w w' : World} {e : TypeId} {sz : Nat} {v : Value} {n : Nat} {xs : List Value} (h : w.ownsRow N e sz v n xs) (hB : Below w.heap.size w w') : w'.ownsRow N e sz v n xs :=
  World.ownsRow.kept (row := none) h ⟨hB.os, hB.tape, hB.output, hB.size, fun k hk _ => hB.block k hk⟩ (by cases v.ownBlock <;> simp)
theorem rows_apart {N M : Nat} {w : World} {v u : Value} {n : Nat} {xs : List Value} {l : List UInt8} (h : w.ownsRow N 57 3 v n xs) (hu : Ow M w u l) : u.ownBlock = none ∨ u.ownBlock ≠ v.ownBlock := by
  rcases hu.2 with ⟨rfl, _⟩ | ⟨g, cap, cur, rfl, _, hgb, _⟩
  · exact .inl rfl
  · right
    rcases h.2 with ⟨rfl, _⟩ | ⟨g', cap', cur', rfl, _, hgb', _⟩
    · simp [Value.ownBlock]
    · intro e
      simp [Value.ownBlock] at e
      subst e
      rw [hgb] at hgb'
      simp at hgb'
theorem take_rw {rs : List Rw} {j : Nat} (h : j < rs.length) : rs.take (j + 1) = rs.take j ++ [rs[j]] := List.take_succ_eq_append_getElem h

theorem FilesIn.base {N M : Nat} {w : World} {v : Value} {fs : List Fl} (h : FilesIn N w v fs) (hM : M ≤ N) : FilesIn M w v fs :=
  ⟨⟨h.row.1, h.row.2.imp id (fun ⟨g, cap, cur, e, hg, r⟩ => ⟨g, cap, cur, e, Nat.le_trans hM hg, r⟩)⟩, fun f hf => (h.own f hf).base hM⟩

set_option maxRecDepth 100000 in
set_option maxHeartbeats 8000000 in
theorem files_any {S : Nat → Prop} {w : World} {d : Nat} {k : DS} (h : DkC S w d k) : Calls Tryz.prog 57 #[.pointer (some ⟨d, 0, none⟩)] w fun r w' => ∃ v fs, r = .returned v ∧ FilesIn w.heap.size w' v fs ∧ fs.map Fl.says = k.rs.map Rw.says ∧ Below w.heap.size w w' := by
  obtain ⟨⟨c0, -⟩, -⟩ := h.cells
  have hli := list_any h
  have hfew := h.few
  have HD : Hid (DkC S w d k) := h
  clear h
  go_enter Tryz.func57, Tryz.ntmps57
  go_wp2_with fail
  refine hli.mono ?_
  rintro r w1 ⟨tv, rfl, hT, hB1⟩
  have HT : Hid (TextsIn w.heap.size w1 tv (k.rs.map Rw.nm)) := hT
  obtain ⟨ta, tc, rfl, htc⟩ : ∃ ta tc, tv = .slice ta k.rs.length tc ∧ k.rs.length ≤ tc := by
    rcases hT.2 with ⟨rfl, h0⟩ | ⟨g, cap, cur, rfl, _, _, h3, _⟩
    · rw [List.length_map] at h0
      exact ⟨none, 0, by rw [h0], by omega⟩
    · rw [List.length_map] at h3 ⊢
      exact ⟨_, _, rfl, h3⟩
  clear hT
  go_wp2_with fail
  go_loopw [3, 10] (fun sv iv wr => ∃ (j : Nat) (fl : List Fl), iv = .int .i64 (j : Int) ∧ j ≤ k.rs.length ∧ FilesIn w1.heap.size wr sv fl ∧ fl.map Fl.says = (k.rs.take j).map Rw.says ∧ Below w.heap.size w wr ∧ Below w1.heap.size w1 wr) (fun _ iv _ => k.rs.length - (intOf iv).toNat)
  case atStart => exact ⟨0, [], rfl, Nat.zero_le _, ⟨World.ownsRow_nil _ _ _ _, by simp⟩, by simp, hB1, Below.refl _ _⟩
  case round =>
    obtain ⟨j, fl, rfl, hj, hfi, hsay, hB, hB1'⟩ := hrel
    have HFI : Hid (FilesIn w1.heap.size wr u3 fl) := hfi
    have HS : Hid (fl.map Fl.says = (k.rs.take j).map Rw.says) := hsay
    have HB : Hid (Below w.heap.size w wr) := hB
    have HB1 : Hid (Below w1.heap.size w1 wr) := hB1'
    clear hfi hsay
    by_cases hlt : j < k.rs.length
    · obtain ⟨r, hre⟩ : ∃ r, k.rs[j] = r := ⟨_, rfl⟩
      have hr : r ∈ k.rs := by rw [← hre]; exact List.getElem_mem hlt
      have hA := (At.start HD.out).below hB
      have hF := hA.dk.fs r hr
      have hlk := hA.dk.look hr
      have hnl : r.nm.length ≤ maxLen := by have := hF.nm; unfold maxLen; omega
      have hmr := hA.dk.hm
      obtain ⟨⟨e0, -⟩, -⟩ := hA.dk.cells
      obtain ⟨⟨g0, g1⟩, -⟩ := hF.cells
      obtain ⟨av, capv, hv, hlc, hcm⟩ := hF.own.shape
      have hown := hF.own
      rw [hv] at g0 hown
      have hfr := fresh_any wr.heap.size _ r.dat wr.drew ((hown.sl (Nat.le_refl _)).below ⟨rfl, rfl, rfl, Nat.le_refl _, fun _ _ => rfl⟩) (by have h7 := sum_del_le hr; have := HD.out.all; omega)
      have hbw : r.b < wr.heap.size := hA.dk.inn _ (hA.dk.Sf r hr).1
      have HL : Hid (fl.length = j) := by
        have := congrArg List.length HS.out
        simp at this
        show fl.length = j
        omega
      have HT2 : Hid (wr.ownsRow w.heap.size 9 1 (.slice ta k.rs.length tc) k.rs.length ((k.rs.map Rw.nm).map encStr)) := by
        have h9 := row_below HT.out HB1.out
        rw [List.length_map] at h9
        exact h9
      obtain ⟨tb, rfl⟩ : ∃ tb, ta = some ⟨tb, 0, none⟩ := by
        rcases HT2.out.2 with ⟨hv0, h0⟩ | ⟨g, cap, cur, hv0, _⟩
        · omega
        · cases hv0; exact ⟨g, rfl⟩
      have HNE : Hid (some r.b ≠ Value.ownBlock u3) := by
        show some r.b ≠ _
        intro e
        rcases HFI.out.row.2 with ⟨hv0, _⟩ | ⟨g, cap, cur, hv0, _, hb0, _⟩
        · rw [hv0] at e; simp [Value.ownBlock] at e
        · rw [hv0] at e
          simp [Value.ownBlock] at e
          exact hF.ne hb0 (by simp) e
      have hcell : wr.cell? ⟨tb, j, none⟩ = some (.string ⟨r.nm.toArray⟩) := by
        have := World.ownsRow.cellAt HT2.out j (by omega)
        simpa [hlt, hre] using this
      have hij : (j : Int) < (k.rs.length : Int) := by omega
      have HTK : Hid (k.rs.take (j + 1) = k.rs.take j ++ [r]) := by show _ = _; rw [take_rw hlt, hre]
      clear hv hF hown hA hre hlt
      go_wp2_with (first | (at_lookup; refine wpList_look1_some rfl _ _ rfl _ _ _ rfl hmr r.nm rfl hnl r hlk ?_) | fail)
      go_region_held3 (fun w' => w'.cell? ⟨r.b, 0, none⟩ = some (.slice av r.dat.length capv) ∧ w'.cell? ⟨r.b, 1, none⟩ = some (.int .i64 (r.syn : Int))) (go_keep)
        (first
          | (go_at_call 67; refine hfr.mono ?_; rintro e w5 ⟨v5, rfl, hO5, hB5⟩; obtain ⟨ba, bc, rfl, -, -⟩ := hO5.shape; have hB5x : Below wr.heap.size wr w5 := ⟨hB5.os, hB5.tape, hB5.output, hB5.size, hB5.block⟩; have k0 := (hB5x.cell (p := ⟨r.b, 0, none⟩) hbw).trans g0; have k1 := (hB5x.cell (p := ⟨r.b, 1, none⟩) hbw).trans g1)
          | (refine step_append_fl rfl (.tmp 20) (.tmp 32) rfl w1.heap.size u3 fl.length (cellsOf fl) (by simp [Act.eval]) (World.ownsRow.alloc (row_below HFI.out.row hB5x) _) w5.heap.size (by simp [Act.eval]) ⟨r.nm, ba, bc, r.dat, (r.syn : Int)⟩ (heap_alloc_new w5 _) (by have := HL.out; omega) (by have h1 := HB1.out.size; have h2 := hB5x.size; simp only [World.size_alloc]; omega) ?_; intro v6 w6 hrow6 hg6 hl6; have m0 := hg6.cell (World.grownBy.cell (World.grownBy_alloc w5 _ none) k0 (by simp)) HNE.out; have m1 := hg6.cell (World.grownBy.cell (World.grownBy_alloc w5 _ none) k1 (by simp)) HNE.out)
          | fail)
      have hrow5 := World.ownsRow.alloc (row_below HFI.out.row hB5x) (.cells #[.string ⟨r.nm.toArray⟩, .slice ba r.dat.length bc, .int .i64 (r.syn : Int)] 57)
      have hzz : w1.heap.size ≤ w5.heap.size := Nat.le_trans HB1.out.size hB5x.size
      have HEND : Hid (FilesIn w1.heap.size w6 v6 (fl ++ [⟨r.nm, ba, bc, r.dat, (r.syn : Int)⟩]) ∧ (fl ++ [(⟨r.nm, ba, bc, r.dat, (r.syn : Int)⟩ : Fl)]).map Fl.says = (k.rs.take (j + 1)).map Rw.says ∧ Below w.heap.size w w6 ∧ Below w1.heap.size w1 w6) := by
        refine ⟨⟨by simpa [cellsOf] using hrow6, fun f hf => ?_⟩, ?_, ?_, ?_⟩
        · rcases List.mem_append.1 hf with hf | hf
          · have h9 := (Ow.below (HFI.out.own f hf) hB5x (Nat.le_refl _)).alloc (.cells #[.string ⟨r.nm.toArray⟩, .slice ba r.dat.length bc, .int .i64 (r.syn : Int)] 57)
            exact h9.kept hg6 (rows_apart hrow5 h9)
          · obtain rfl : f = _ := by simpa using hf
            have h9 := (Ow.base (N' := w1.heap.size) hO5 HB1.out.size).alloc (.cells #[.string ⟨r.nm.toArray⟩, .slice ba r.dat.length bc, .int .i64 (r.syn : Int)] 57)
            exact h9.kept hg6 (rows_apart hrow5 h9)
        · rw [HTK.out, List.map_append, List.map_append, HS.out]; rfl
        · exact ((HB.out.trans (hB5x.mono HB.out.size)).alloc (Nat.le_trans HB.out.size hB5x.size) _).grown hg6 (by simp only [World.size_alloc]; have h1 := HB.out.size; have h2 := hB5x.size; omega) (fun j hj => by have h1 := (World.ownsRow.lt hrow5 j hj).1; have h2 := hB1.size; omega)
        · exact ((HB1.out.trans (hB5x.mono HB1.out.size)).alloc hzz _).grown hg6 (by simp only [World.size_alloc]; omega) (fun j hj => (World.ownsRow.lt hrow5 j hj).1)
      clear hrow6 hg6 hl6 m0 m1 k0 k1 hrow5 hO5
      go_wp2
      exact ⟨⟨j + 1, _, by go_num, by omega, HEND.out.1, HEND.out.2.1, HEND.out.2.2.1, HEND.out.2.2.2⟩, by simp [intOf]; omega⟩
    · have HE : Hid (k.rs.take j = k.rs) := List.take_of_length_le (by omega)
      go_wp2
      go_ret
      exact ⟨_, fl, rfl, HFI.out.base hB1.size, by rw [HS.out, HE.out], HB.out⟩

end Go.Proofs.YtnahghldlkjleaaGreatDoor
namespace Go.Proofs.YtnahghldlkjleaaGreatDoor
open Go.RowKit

def nilFl : Fl := ⟨[], none, 0, [], 0⟩
def FlAt (N : Nat) (w : World) (b off : Nat) (f : Fl) : Prop :=
  w.cell? ⟨b, off, none⟩ = some (.string ⟨f.nm.toArray⟩) ∧ w.cell? ⟨b, off + 1, none⟩ = some f.x ∧ w.cell? ⟨b, off + 2, none⟩ = some (.int .i64 f.syn) ∧ Sl N w f.x f.dat
/-- A list of files, in blocks below N. -/
def FlsAt (N : Nat) (w : World) (a : Option Addr) (fs : List Fl) : Prop :=
  fs = [] ∨ ∃ b off, a = some ⟨b, off, none⟩ ∧ b < N ∧ ∀ i, i < fs.length → FlAt N w b (off + i * 3) (fs.getD i nilFl)
theorem FlAt.below {N : Nat} {w w' : World} {b off : Nat} {f : Fl} (h : FlAt N w b off f) (hb : b < N) (hB : Below N w w') : FlAt N w' b off f :=
  ⟨(hB.cell (p := ⟨b, off, none⟩) hb).trans h.1, (hB.cell (p := ⟨b, off + 1, none⟩) hb).trans h.2.1, (hB.cell (p := ⟨b, off + 2, none⟩) hb).trans h.2.2.1, h.2.2.2.below hB⟩
theorem FlsAt.below {N : Nat} {w w' : World} {a : Option Addr} {fs : List Fl} (h : FlsAt N w a fs) (hB : Below N w w') : FlsAt N w' a fs := by
  rcases h with h | ⟨b, off, ha, hb, hc⟩
  · exact .inl h
  · exact .inr ⟨b, off, ha, hb, fun i hi => (hc i hi).below hb hB⟩
theorem FlsAt.mono {N M : Nat} {w : World} {a : Option Addr} {fs : List Fl} (h : FlsAt N w a fs) (hM : N ≤ M) : FlsAt M w a fs := by
  rcases h with h | ⟨b, off, ha, hb, hc⟩
  · exact .inl h
  · exact .inr ⟨b, off, ha, by omega, fun i hi => ⟨(hc i hi).1, (hc i hi).2.1, (hc i hi).2.2.1, (hc i hi).2.2.2.mono hM⟩⟩
theorem FlsAt.at {N : Nat} {w : World} {a : Option Addr} {fs : List Fl} (h : FlsAt N w a fs) {i : Nat} (hi : i < fs.length) : ∃ b off, a = some ⟨b, off, none⟩ ∧ b < N ∧ FlAt N w b (off + i * 3) (fs.getD i nilFl) := by
  rcases h with h | ⟨b, off, ha, hb, hc⟩
  · subst h; simp at hi
  · exact ⟨b, off, ha, hb, hc i hi⟩
theorem cellsOf_at : ∀ (fs : List Fl) (i j : Nat), i < fs.length → j < 3 → (cellsOf fs)[i * 3 + j]? = (fs.getD i nilFl).cells[j]?
  | [], i, _, h, _ => by simp at h
  | f :: r, 0, j, _, hj => by
    simp only [cellsOf, List.map_cons, List.flatten_cons, Nat.zero_mul, Nat.zero_add, List.getD_cons_zero]
    rw [List.getElem?_append_left (by simp [Fl.cells]; omega)]
  | f :: r, i + 1, j, h, hj => by
    have ih := cellsOf_at r i j (by simpa using h) hj
    simp only [cellsOf, List.map_cons, List.flatten_cons, List.getD_cons_succ] at *
    rw [List.getElem?_append_right (by simp [Fl.cells]; omega), ← ih]
    congr 1
    simp [Fl.cells]
    omega
theorem FilesIn.at {N : Nat} {w : World} {v : Value} {fs : List Fl} (h : FilesIn N w v fs) : ∃ a c, v = .slice a fs.length c ∧ fs.length ≤ c ∧ c ≤ maxLen ∧ FlsAt w.heap.size w a fs := by
  rcases h.row.2 with ⟨rfl, h0⟩ | ⟨g, cap, cur, rfl, _, hb, h1, h2, h3, h4⟩
  · exact ⟨none, 0, by rw [h0], by omega, by unfold maxLen; omega, .inl (List.length_eq_zero_iff.1 h0)⟩
  · refine ⟨_, _, rfl, h1, h2, .inr ⟨g, 0, rfl, (Array.getElem?_eq_some_iff.1 hb).1, fun i hi => ?_⟩⟩
    have key : ∀ j, j < 3 → w.cell? ⟨g, 0 + i * 3 + j, none⟩ = (fs.getD i nilFl).cells[j]? := fun j hj => by
      have e1 := cellsOf_at fs i j hi hj
      have e2 : (cur.toList.take (fs.length * 3))[i * 3 + j]? = (cellsOf fs)[i * 3 + j]? := by rw [h4]
      rw [List.getElem?_take_of_lt (by omega), e1] at e2
      simp only [World.cell?, hb, Nat.zero_add]
      simpa using e2
    have hm : fs.getD i nilFl ∈ fs := by
      rw [List.getD_eq_getElem?_getD, List.getElem?_eq_getElem hi]; exact List.getElem_mem hi
    refine ⟨key 0 (by omega), key 1 (by omega), key 2 (by omega), (h.own _ hm).sl (Nat.le_refl _)⟩

def saysF (fs : List Fl) : List (List UInt8 × List UInt8 × Int) := fs.map Fl.says
theorem take_fl {fs : List Fl} {k : Nat} (h : k < fs.length) : fs.take (k + 1) = fs.take k ++ [fs.getD k nilFl] := by
  rw [List.take_succ_eq_append_getElem h, List.getD_eq_getElem?_getD, List.getElem?_eq_getElem h]; rfl
theorem drop_fl {l : List Fl} {k : Nat} (h : k < l.length) : l.drop k = l.getD k nilFl :: l.drop (k + 1) := by
  rw [List.drop_eq_getElem_cons h, List.getD_eq_getElem?_getD, List.getElem?_eq_getElem h]; rfl
theorem saysF_drop {a b : List Fl} {k : Nat} (h : saysF (a.take k) = saysF (b.take k)) : (saysF a = saysF b) ↔ (saysF (a.drop k) = saysF (b.drop k)) := by
  have e1 : saysF a = saysF (a.take k) ++ saysF (a.drop k) := by unfold saysF; rw [← List.map_append, List.take_append_drop]
  have e2 : saysF b = saysF (b.take k) ++ saysF (b.drop k) := by unfold saysF; rw [← List.map_append, List.take_append_drop]
  rw [e1, e2, h]
  simp

set_option maxRecDepth 100000 in
set_option maxHeartbeats 8000000 in
theorem sameFiles_any (a b : Option Addr) (ca cb : Nat) (es fs : List Fl) (N : Nat) (w : World) (h1 : FlsAt N w a es) (h2 : FlsAt N w b fs) (hN : N ≤ w.heap.size) (hz : es.length ≤ 1000000000) :
    Calls Tryz.prog 58 #[.slice a es.length ca, .slice b fs.length cb] w fun e w' => e = .returned (.bool (decide (saysF es = saysF fs))) ∧ Below w.heap.size w w' := by
  have H1 : Hid (FlsAt N w a es) := h1
  have H2 : Hid (FlsAt N w b fs) := h2
  clear h1 h2
  by_cases hl : es.length = fs.length
  case neg =>
    have hl' : ((es.length : Int) != (fs.length : Int)) = true := by simp; omega
    have e0 : decide (saysF es = saysF fs) = false := by
      simp only [decide_eq_false_iff_not]
      intro h
      have := congrArg List.length h
      simp [saysF] at this
      exact hl this
    rw [e0]
    clear hl
    go_enter Tryz.func58, Tryz.ntmps58
    go_wp2
    go_ret
    exact ⟨rfl, Below.refl _ _⟩
  have hl' : ((es.length : Int) != (fs.length : Int)) = false := by simp; omega
  have HL : Hid (es.length = fs.length) := hl
  have hle : es.length ≤ fs.length := by omega
  clear hl
  go_enter Tryz.func58, Tryz.ntmps58
  go_wp2
  go_loopw [5] (fun iv wr => ∃ (k : Nat), iv = .int .i64 (k : Int) ∧ k ≤ es.length ∧ saysF (es.take k) = saysF (fs.take k) ∧ Below w.heap.size w wr) (fun iv _ => es.length - (intOf iv).toNat)
  case atStart => exact ⟨0, rfl, Nat.zero_le _, by simp, Below.refl _ _⟩
  case round =>
    obtain ⟨k, rfl, hk, hg, hB⟩ := hrel
    have HG : Hid (saysF (es.take k) = saysF (fs.take k)) := hg
    have HB : Hid (Below w.heap.size w wr) := hB
    clear hg
    by_cases hlt : k < es.length
    · have hlt2 : k < fs.length := by omega
      obtain ⟨b1, o1, hea, hb1, he1⟩ := H1.out.at hlt
      obtain ⟨b2, o2, heb, hb2, he2⟩ := H2.out.at hlt2
      subst hea heb
      have hx1 := he1.below hb1 (hB.mono hN)
      have hx2 := he2.below hb2 (hB.mono hN)
      have HD1 : Hid (es.drop k = es.getD k nilFl :: es.drop (k + 1)) := drop_fl hlt
      have HD2 : Hid (fs.drop k = fs.getD k nilFl :: fs.drop (k + 1)) := drop_fl hlt2
      have HT1 : Hid (es.take (k + 1) = es.take k ++ [es.getD k nilFl]) := take_fl hlt
      have HT2 : Hid (fs.take (k + 1) = fs.take k ++ [fs.getD k nilFl]) := take_fl hlt2
      generalize es.getD k nilFl = e at *
      generalize fs.getD k nilFl = f at *
      have HR : Hid (saysF es = saysF fs → e.says = f.says) := by
        intro h
        rw [saysF_drop HG.out, HD1.out, HD2.out] at h
        simp only [saysF, List.map_cons, List.cons.injEq] at h
        exact h.1
      have HS0 : Hid (e.says = f.says → saysF (es.take (k + 1)) = saysF (fs.take (k + 1))) := by
        intro h
        rw [HT1.out, HT2.out]
        have := HG.out
        simp only [saysF, List.map_append, List.map_cons, List.map_nil] at this ⊢
        rw [this, h]
      obtain ⟨n1, a1, c1, d1, s1⟩ := e
      obtain ⟨n2, a2, c2, d2, s2⟩ := f
      have HS : Hid (n1 = n2 ∧ d1 = d2 ∧ s1 = s2 → saysF (es.take (k + 1)) = saysF (fs.take (k + 1))) := fun h => HS0.out (by simp [Fl.says, h])
      obtain ⟨p0, p1, p2, p3⟩ := hx1
      obtain ⟨q0, q1, q2, q3⟩ := hx2
      unfold Fl.x at p1 p3 q1 q3
      unfold Fl.says at HR
      simp only at p0 p1 p2 p3 q0 q1 q2 q3 HR
      have hdr : Below N wr wr.drew := ⟨rfl, rfl, rfl, Nat.le_refl _, fun _ _ => rfl⟩
      have hp := same_any N _ _ d1 d2 wr.drew (p3.below hdr) (q3.below hdr)
      have hi2 : (k : Int) < (fs.length : Int) := by omega
      have hi1 : (k : Int) < (es.length : Int) := by omega
      have hi0 : (0 : Int) ≤ (k : Int) := by omega
      clear he1 he2 hB p3 q3 HS0
      by_cases hd : d1 = d2
      · subst hd
        rw [show decide (d1 = d1) = true from by simp] at hp
        by_cases hn : n1 = n2
        · subst hn
          by_cases hs : s1 = s2
          · subst hs
            go_wp2_with fail
            go_region_held3 (fun w' => w'.cell? ⟨b1, o1 + k * 3, none⟩ = some (.string ⟨n1.toArray⟩) ∧ w'.cell? ⟨b1, o1 + k * 3 + 1, none⟩ = some (.slice a1 d1.length c1) ∧ w'.cell? ⟨b1, o1 + k * 3 + 2, none⟩ = some (.int .i64 s1) ∧ w'.cell? ⟨b2, o2 + k * 3, none⟩ = some (.string ⟨n1.toArray⟩) ∧ w'.cell? ⟨b2, o2 + k * 3 + 1, none⟩ = some (.slice a2 d1.length c2) ∧ w'.cell? ⟨b2, o2 + k * 3 + 2, none⟩ = some (.int .i64 s1)) (go_keep)
              (first | (go_at_call 83; refine hp.mono ?_; rintro e w5 ⟨rfl, nn, rfl⟩) | fail)
            go_wp2_with fail
            go_quiet (fail)
            go_wp2
            refine ⟨⟨k + 1, by go_num, by omega, HS.out (by simp), ?_⟩, by simp [intOf]; omega⟩
            exact HB.out.trans ⟨rfl, rfl, rfl, Nat.le_refl _, fun _ _ => rfl⟩
          · have hs' : (s1 != s2) = true := by simpa using hs
            have HE : Hid (decide (saysF es = saysF fs) = false) := by
              show decide (saysF es = saysF fs) = false
              simp only [decide_eq_false_iff_not]
              intro h
              have := HR.out h
              simp at this
              exact hs this
            go_wp2_with fail
            go_region_held3 (fun w' => w'.cell? ⟨b1, o1 + k * 3, none⟩ = some (.string ⟨n1.toArray⟩) ∧ w'.cell? ⟨b1, o1 + k * 3 + 1, none⟩ = some (.slice a1 d1.length c1) ∧ w'.cell? ⟨b1, o1 + k * 3 + 2, none⟩ = some (.int .i64 s1) ∧ w'.cell? ⟨b2, o2 + k * 3, none⟩ = some (.string ⟨n1.toArray⟩) ∧ w'.cell? ⟨b2, o2 + k * 3 + 1, none⟩ = some (.slice a2 d1.length c2) ∧ w'.cell? ⟨b2, o2 + k * 3 + 2, none⟩ = some (.int .i64 s2)) (go_keep)
              (first | (go_at_call 83; refine hp.mono ?_; rintro e w5 ⟨rfl, nn, rfl⟩) | fail)
            go_wp2_with fail
            go_quiet (fail)
            go_wp2
            go_ret
            exact ⟨by rw [HE.out]; rfl, HB.out.trans ⟨rfl, rfl, rfl, Nat.le_refl _, fun _ _ => rfl⟩⟩
        · have hn' : (n1 == n2) = false := by simpa using hn
          have HE : Hid (decide (saysF es = saysF fs) = false) := by
            show decide (saysF es = saysF fs) = false
            simp only [decide_eq_false_iff_not]
            intro h
            have := HR.out h
            simp at this
            exact hn this.1
          go_wp2_with fail
          go_region_held3 (fun w' => w'.cell? ⟨b1, o1 + k * 3, none⟩ = some (.string ⟨n1.toArray⟩) ∧ w'.cell? ⟨b1, o1 + k * 3 + 1, none⟩ = some (.slice a1 d1.length c1) ∧ w'.cell? ⟨b1, o1 + k * 3 + 2, none⟩ = some (.int .i64 s1) ∧ w'.cell? ⟨b2, o2 + k * 3, none⟩ = some (.string ⟨n2.toArray⟩) ∧ w'.cell? ⟨b2, o2 + k * 3 + 1, none⟩ = some (.slice a2 d1.length c2) ∧ w'.cell? ⟨b2, o2 + k * 3 + 2, none⟩ = some (.int .i64 s2)) (go_keep)
            (first | (go_at_call 83; refine hp.mono ?_; rintro e w5 ⟨rfl, nn, rfl⟩) | fail)
          go_wp2_with fail
          go_quiet (fail)
          go_wp2
          go_ret
          exact ⟨by rw [HE.out]; rfl, HB.out.trans ⟨rfl, rfl, rfl, Nat.le_refl _, fun _ _ => rfl⟩⟩
      · rw [show decide (d1 = d2) = false from by simpa using hd] at hp
        have HE : Hid (decide (saysF es = saysF fs) = false) := by
          show decide (saysF es = saysF fs) = false
          simp only [decide_eq_false_iff_not]
          intro h
          have := HR.out h
          simp at this
          exact hd this.2.1
        go_wp2_with fail
        go_region_held3 (fun w' => w'.cell? ⟨b1, o1 + k * 3, none⟩ = some (.string ⟨n1.toArray⟩) ∧ w'.cell? ⟨b1, o1 + k * 3 + 1, none⟩ = some (.slice a1 d1.length c1) ∧ w'.cell? ⟨b1, o1 + k * 3 + 2, none⟩ = some (.int .i64 s1) ∧ w'.cell? ⟨b2, o2 + k * 3, none⟩ = some (.string ⟨n2.toArray⟩) ∧ w'.cell? ⟨b2, o2 + k * 3 + 1, none⟩ = some (.slice a2 d2.length c2) ∧ w'.cell? ⟨b2, o2 + k * 3 + 2, none⟩ = some (.int .i64 s2)) (go_keep)
          (first | (go_at_call 83; refine hp.mono ?_; rintro e w5 ⟨rfl, nn, rfl⟩) | fail)
        go_wp2_with fail
        go_quiet (fail)
        go_wp2
        go_ret
        exact ⟨by rw [HE.out]; rfl, HB.out.trans ⟨rfl, rfl, rfl, Nat.le_refl _, fun _ _ => rfl⟩⟩
    · have HE : Hid (decide (saysF es = saysF fs) = true) := by
        show decide (saysF es = saysF fs) = true
        have := HG.out
        rw [List.take_of_length_le (by omega), List.take_of_length_le (by have := HL.out; omega)] at this
        simpa using this
      go_wp2
      go_ret
      exact ⟨by rw [HE.out]; rfl, HB.out⟩
end Go.Proofs.YtnahghldlkjleaaGreatDoor
namespace Go.Proofs.YtnahghldlkjleaaGreatDoor
open Go.RowKit
set_option linter.unusedVariables false

def OpAt (N : Nat) (w : World) (b off : Nat) (o : Opn) : Prop :=
  (w.cell? ⟨b, off, none⟩ = some (.int .i64 o.kd) ∧ w.cell? ⟨b, off + 1, none⟩ = some (.int .i64 o.n) ∧ w.cell? ⟨b, off + 2, none⟩ = some (.string ⟨o.nm.toArray⟩) ∧ w.cell? ⟨b, off + 3, none⟩ = some (.string ⟨o.to.toArray⟩) ∧ w.cell? ⟨b, off + 4, none⟩ = some o.x) ∧
  Sl N w o.x o.b ∧ o.nm.length ≤ maxLen ∧ o.to.length ≤ maxLen ∧ o.n < 9223372036854775808
/-- A list of operations, in blocks below N. -/
def OpsAt (N : Nat) (w : World) (a : Option Addr) (os : List Opn) : Prop :=
  os = [] ∨ ∃ b off, a = some ⟨b, off, none⟩ ∧ b < N ∧ ∀ i, i < os.length → OpAt N w b (off + i * 5) (os.getD i nilOp)
theorem OpAt.below {N : Nat} {w w' : World} {b off : Nat} {o : Opn} (h : OpAt N w b off o) (hb : b < N) (hB : Below N w w') : OpAt N w' b off o :=
  ⟨⟨(hB.cell (p := ⟨b, off, none⟩) hb).trans h.1.1, (hB.cell (p := ⟨b, off + 1, none⟩) hb).trans h.1.2.1, (hB.cell (p := ⟨b, off + 2, none⟩) hb).trans h.1.2.2.1, (hB.cell (p := ⟨b, off + 3, none⟩) hb).trans h.1.2.2.2.1, (hB.cell (p := ⟨b, off + 4, none⟩) hb).trans h.1.2.2.2.2⟩, h.2.1.below hB, h.2.2⟩
theorem OpsAt.below {N : Nat} {w w' : World} {a : Option Addr} {os : List Opn} (h : OpsAt N w a os) (hB : Below N w w') : OpsAt N w' a os := by
  rcases h with h | ⟨b, off, ha, hb, hc⟩
  · exact .inl h
  · exact .inr ⟨b, off, ha, hb, fun i hi => (hc i hi).below hb hB⟩
theorem OpsAt.at {N : Nat} {w : World} {a : Option Addr} {os : List Opn} (h : OpsAt N w a os) {i : Nat} (hi : i < os.length) : ∃ b off, a = some ⟨b, off, none⟩ ∧ b < N ∧ OpAt N w b (off + i * 5) (os.getD i nilOp) := by
  rcases h with h | ⟨b, off, ha, hb, hc⟩
  · subst h; simp at hi
  · exact ⟨b, off, ha, hb, hc i hi⟩
theorem take_op {os : List Opn} {k : Nat} (h : k < os.length) : os.take (k + 1) = os.take k ++ [os.getD k nilOp] := by
  rw [List.take_succ_eq_append_getElem h, List.getD_eq_getElem?_getD, List.getElem?_eq_getElem h]; rfl

/-- It answers a truth. -/
def SomeB (e : Ending) : Prop := ∃ b : Bool, e = .returned (.bool b)
theorem someB {e : Ending} (b : Bool) (h : e = .returned (.bool b)) : SomeB e := ⟨b, h⟩

/-- The disk behind operations. -/
def madeP (os : List Opn) : PD := os.foldl (fun p o => (toldP p o).2) ⟨[], 0, false⟩
theorem madeP_step {os : List Opn} {k : Nat} (h : k < os.length) : madeP (os.take (k + 1)) = (toldP (madeP (os.take k)) (os.getD k nilOp)).2 := by
  unfold madeP
  rw [take_op h, List.foldl_append]; rfl

/-- Block d is a disk p, in memory from N on. -/
def Dsk (N : Nat) (w : World) (S : Nat → Prop) (d : Nat) (p : PD) : Prop := ∃ k, DkC S w d k ∧ k.pd = p ∧ ∀ i, S i → N ≤ i
theorem Dsk.below {N : Nat} {S : Nat → Prop} {w w' : World} {d : Nat} {p : PD} (h : Dsk N w S d p) (hB : Below w.heap.size w w') : Dsk N w' S d p := by
  obtain ⟨k, h1, h2, h3⟩ := h
  exact ⟨k, h1.out (X := fun _ => False) (Out.of_below hB) (fun _ _ hf => hf), h2, h3⟩
theorem Dsk.out {N : Nat} {S X : Nat → Prop} {w w' : World} {d : Nat} {p : PD} (h : Dsk N w S d p) (hO : Out X w w') (hx : ∀ i, S i → ¬ X i) : Dsk N w' S d p := by
  obtain ⟨k, h1, h2, h3⟩ := h
  exact ⟨k, h1.out hO hx, h2, h3⟩
theorem Dsk.inn {N : Nat} {S : Nat → Prop} {w : World} {d : Nat} {p : PD} (h : Dsk N w S d p) : ∀ i, S i → i < w.heap.size := h.choose_spec.1.inn
theorem Dsk.from {N : Nat} {S : Nat → Prop} {w : World} {d : Nat} {p : PD} (h : Dsk N w S d p) : ∀ i, S i → N ≤ i := h.choose_spec.2.2

/-- Behind an operation. -/
structure Then (N : Nat) (S : Nat → Prop) (w w' : World) (d : Nat) (p : PD) : Prop where
  dsk : Dsk N w' (grew S w w') d p
  out : Out S w w'
  bel : Below N w w'
theorem Then.of {N : Nat} {S : Nat → Prop} {w w' : World} {d : Nat} {k' : DS} {p : PD} (h : At S w w' d k') (hp : k'.pd = p) (hS : ∀ i, S i → N ≤ i) (hN : N ≤ w.heap.size) : Then N S w w' d p :=
  ⟨⟨k', h.dk, hp, fun i hi => hi.elim (hS i) (fun h9 => Nat.le_trans hN h9.1)⟩, h.out, h.out.below hN hS⟩

theorem crash_dsk {N : Nat} {S : Nat → Prop} {w : World} {d : Nat} {p : PD} (h : Dsk N w S d p) (hN : N ≤ w.heap.size) (keep : Int) :
    Calls Tryz.prog 14 #[.pointer (some ⟨d, 0, none⟩), .int .i64 keep] w fun r w' => r = .returned (.tuple #[]) ∧ Then N S w w' d (doCrash p keep) := by
  obtain ⟨k, hk, rfl, hS⟩ := h
  refine (crash_any hk keep).mono ?_
  rintro r w' ⟨k', rfl, hA, hp⟩
  exact ⟨rfl, Then.of hA hp hS hN⟩
theorem says_pd (k : DS) : k.rs.map Rw.says = k.pd.fs.map PF.says := by
  show _ = (k.rs.map (Rw.pf k.last)).map PF.says
  rw [List.map_map]; rfl
theorem files_dsk {N : Nat} {S : Nat → Prop} {w : World} {d : Nat} {p : PD} (h : Dsk N w S d p) :
    Calls Tryz.prog 57 #[.pointer (some ⟨d, 0, none⟩)] w fun r w' => ∃ a c fs, r = .returned (.slice a fs.length c) ∧ FlsAt w'.heap.size w' a fs ∧ saysF fs = p.fs.map PF.says ∧ fs.length ≤ 256 ∧ Below w.heap.size w w' := by
  obtain ⟨k, hk, rfl, hS⟩ := h
  refine (files_any hk).mono ?_
  rintro r w' ⟨v, fs, rfl, hF, hs, hB⟩
  obtain ⟨a, c, rfl, _, _, hat⟩ := hF.at
  refine ⟨a, c, fs, rfl, hat, by rw [← says_pd]; exact hs, ?_, hB⟩
  have := congrArg List.length hs
  simp at this
  have := hk.few
  omega
theorem down_dsk {N : Nat} {S : Nat → Prop} {w : World} {d : Nat} {p : PD} (h : Dsk N w S d p) : Calls Tryz.prog 31 #[.pointer (some ⟨d, 0, none⟩)] w fun r w' => r = .returned (.bool p.dn) ∧ w' = w := by
  obtain ⟨k, hk, rfl, hS⟩ := h
  exact down_any hk
theorem new_dsk (N : Nat) (w : World) (hN : N ≤ w.heap.size) : Calls Tryz.prog 11 #[] w fun r w' => r = .returned (.pointer (some ⟨w.heap.size + 1, 0, none⟩)) ∧ Dsk N w' (fun i => w.heap.size ≤ i ∧ i < w.heap.size + 2) (w.heap.size + 1) ⟨[], 0, false⟩ ∧ Below w.heap.size w w' := by
  refine (new_any w).mono ?_
  rintro r w' ⟨rfl, rfl⟩
  exact ⟨rfl, ⟨_, new_dk w, rfl, fun i hi => by omega⟩, ((Below.refl _ w).alloc (Nat.le_refl _) _).alloc (by simp) _⟩

end Go.Proofs.YtnahghldlkjleaaGreatDoor
namespace Go.Proofs.YtnahghldlkjleaaGreatDoor
open Go.RowKit
set_option linter.unusedVariables false

theorem create_dsk {N : Nat} {S : Nat → Prop} {w : World} {d : Nat} {p : PD} (h : Dsk N w S d p) (hN : N ≤ w.heap.size) (nm : List UInt8) (hn : nm.length ≤ maxLen) (x : Nat × PD) (hx : doCreate p nm = x) :
    Calls Tryz.prog 162 #[.pointer (some ⟨d, 0, none⟩), .string ⟨nm.toArray⟩] w fun r w' => r = .returned (.int .i64 (x.1 : Int)) ∧ Then N S w w' d x.2 := by
  obtain ⟨k, hk, rfl, hS⟩ := h
  subst hx
  refine (create_any hk nm hn).mono ?_
  rintro r w' ⟨k', rfl, hA, hp⟩
  exact ⟨rfl, Then.of hA hp hS hN⟩
theorem sync_dsk {N : Nat} {S : Nat → Prop} {w : World} {d : Nat} {p : PD} (h : Dsk N w S d p) (hN : N ≤ w.heap.size) (nm : List UInt8) (hn : nm.length ≤ maxLen) (x : Nat × PD) (hx : doSync p nm = x) :
    Calls Tryz.prog 93 #[.pointer (some ⟨d, 0, none⟩), .string ⟨nm.toArray⟩] w fun r w' => r = .returned (.int .i64 (x.1 : Int)) ∧ Then N S w w' d x.2 := by
  obtain ⟨k, hk, rfl, hS⟩ := h
  subst hx
  refine (sync_any hk nm hn).mono ?_
  rintro r w' ⟨k', rfl, hA, hp⟩
  exact ⟨rfl, Then.of hA hp hS hN⟩
/-- Bytes that are written out are appended. -/
theorem append_dsk {N : Nat} {S : Nat → Prop} {w : World} {d : Nat} {p : PD} (h : Dsk N w S d p) (hN : N ≤ w.heap.size) (nm : List UInt8) (hn : nm.length ≤ maxLen) (l : List UInt8) (c : Array Value) (hl : 0 < l.length) (hm : l.length ≤ 1000) (hc : c.toList = l.map encB) (x : Nat × PD) (hx : doAppend p nm l = x) :
    Calls Tryz.prog 174 #[.pointer (some ⟨d, 0, none⟩), .string ⟨nm.toArray⟩, .slice (some ⟨w.heap.size, 0, none⟩) l.length l.length] (w.alloc (.cells c 5)) fun r w' => r = .returned (.int .i64 (x.1 : Int)) ∧ Then N S (w.alloc (.cells c 5)) w' d x.2 := by
  have hB : Below w.heap.size w (w.alloc (.cells c 5)) := (Below.refl _ w).alloc (Nat.le_refl _) _
  have hi := h.inn
  obtain ⟨k, hk, rfl, hS⟩ := h.below hB
  subst hx
  have hsl := sl_new w l c hl hm hc
  have hsx : SlX S (w.alloc (.cells c 5)) (.slice (some ⟨w.heap.size, 0, none⟩) l.length l.length) l := by
    obtain ⟨a, cap, e, h1, h2, h3⟩ := hsl
    cases e
    refine ⟨_, _, rfl, h1, h2, h3.imp id ?_⟩
    rintro ⟨b, off, ha, hb, hcc⟩
    cases ha
    exact ⟨_, _, rfl, fun hs => by have := hi _ hs; omega, by simp, hcc⟩
  refine (append_any hk nm hn _ _ l hsx).mono ?_
  rintro r w' ⟨k', rfl, hA, hp⟩
  exact ⟨rfl, Then.of hA hp hS (by simp; omega)⟩

def pA : PD := ⟨[⟨[97], [], 0, false⟩], 0, false⟩
def pB : PD := ⟨[⟨[97], [1, 2, 3], 0, true⟩], 0, false⟩
def pC : PD := ⟨[⟨[97], [1, 2, 3], 3, true⟩], 0, false⟩
def pD : PD := ⟨[⟨[97], [1, 2, 3, 4, 5], 3, true⟩], 0, false⟩
theorem xa : doCreate ⟨[], 0, false⟩ [97] = (0, pA) := rfl
theorem xb : doCreate pA [97] = (9, pA) := rfl
theorem xc : doCreate pA [77] = (7, pA) := rfl
theorem xd : doAppend pA [97] [1, 2, 3] = (0, pB) := rfl
theorem xe : doSync pB [97] = (0, pC) := rfl
theorem xf : doAppend pC [97] [4, 5] = (0, pD) := rfl
theorem xg : doCrash pD 1 = ⟨[⟨[97], [1, 2, 3, 4], 4, false⟩], 0, false⟩ := rfl

end Go.Proofs.YtnahghldlkjleaaGreatDoor
