/-
  List, Files: what a disk tells of its files.
-/
import Derived.Test.YtbjnhohfdpdcnaaC4
import Derived.Test.YtbjnhohfdpdcnaaSrt
import Derived.Deep.RegionHeld3
namespace Go.Proofs.Ytbjnhohfdpdcnaa
open Go.RowKit

theorem info9 : (Try.prog.info? 9).map (fun i => (i.zero, i.size, i.bytes)) = some (some (.string ByteArray.empty), 1, 16) := by kernel_rfl
theorem strKeys_ents (rs : List Rw) : strKeys (.map (rs.map Rw.ent)) = rs.map Rw.nm := by
  show (rs.map Rw.ent).map (fun p => strOf p.1) = _
  rw [List.map_map]; rfl
theorem before_le {a b : List UInt8} (h : bytesBefore a b = true) : leB a b = true := by
  simp only [leB, decide_eq_true_eq]
  induction a generalizing b with
  | nil => exact List.nil_le _
  | cons x r ih =>
    cases b with
    | nil => simp [bytesBefore] at h
    | cons y s =>
      simp [bytesBefore] at h
      rw [List.cons_le_cons_iff]
      rcases h with h | ⟨h1, h2⟩
      · exact .inl h
      · exact .inr ⟨h1, ih h2⟩
theorem DkC.sorted {S : Nat → Prop} {w : World} {d : Nat} {k : DS} (h : DkC S w d k) : (k.rs.map Rw.nm).mergeSort leB = k.rs.map Rw.nm :=
  List.mergeSort_of_pairwise (List.pairwise_map.2 (h.rise.imp (fun hab => before_le hab)))

/-- v is a new slice of these texts. -/
def TextsIn (N : Nat) (w : World) (v : Value) (ts : List (List UInt8)) : Prop := w.ownsRow N 9 1 v ts.length (ts.map encStr)

theorem row_kept {N : Nat} {w w' : World} {e : TypeId} {sz : Nat} {v : Value} {n : Nat} {xs : List Value} {r : Nat} (h : w.ownsRow N e sz v n xs) (hg : w.grownBy w' (some r)) (hne : some r ≠ v.ownBlock) : w'.ownsRow N e sz v n xs :=
  World.ownsRow.kept h hg (by cases hb : v.ownBlock with | none => exact .inl rfl | some j => exact .inr (fun e => hne (by rw [hb]; exact e.symm)))

set_option maxRecDepth 100000 in
set_option maxHeartbeats 8000000 in
theorem list_any {S : Nat → Prop} {w : World} {d : Nat} {k : DS} (h : DkC S w d k) : Calls Try.prog 25 #[.pointer (some ⟨d, 0, none⟩)] w fun r w' => ∃ v, r = .returned v ∧ TextsIn w.heap.size w' v (k.rs.map Rw.nm) ∧ Below w.heap.size w w' := by
  obtain ⟨⟨c0, -⟩, -⟩ := h.cells
  obtain ⟨i0, hi, hz0, hz1, hz2⟩ := info_parts info9
  have hm := h.hm
  have hmS := h.inn _ h.Sm
  have hfew := h.few
  have HD : Hid (DkC S w d k) := h
  have HM : Hid (w.ownsMap Try.prog 9 ptrElem k.m k.rs.length (.map (k.rs.map Rw.ent))) := hm
  clear h
  go_enter Try.func25, Try.ntmps25
  go_wp2_with (first
    | (at_range; refine wpList_range_own _ rfl _ 62 rfl 9 63 law9 Try.underlying62 ptrElem k.m k.rs.length _ rfl hm ?_; intro w1 hrg0 hg0 hs0)
    | go_in)
  go_frame
  go_loopw [3] (fun sv wr => ∃ (left : Lit → Bool) (cnt : Nat) (ss : List (List UInt8)), wr.ranges Try.prog 9 ptrElem k.m w.heap.size k.rs.length (.map (k.rs.map Rw.ent)) left cnt ∧ Collected (.map (k.rs.map Rw.ent)) left ss ∧ w.grownBy wr none ∧ wr.ownsRow w.heap.size 9 1 sv ss.length (ss.map encStr) ∧ ss.length + cnt ≤ k.rs.length)
    (fun _ wr => wr.rangeLeft k.m w.heap.size)
  case atStart => exact ⟨_, _, [], hrg0, Collected.start _, hg0, World.ownsRow_nil _ _ _ _, by simp [Maps.size_eq]⟩
  case round =>
    obtain ⟨left, cnt, ss, hrg, hC, hgw, hrow, hcnt⟩ := hrel
    have HC : Hid (Collected (.map (k.rs.map Rw.ent)) left ss) := hC
    have HROW : Hid (wr.ownsRow w.heap.size 9 1 u3 ss.length (ss.map encStr)) := hrow
    have HRG : Hid (wr.ranges Try.prog 9 ptrElem k.m w.heap.size k.rs.length (.map (k.rs.map Rw.ent)) left cnt) := hrg
    have HGW : Hid (w.grownBy wr none) := hgw
    clear hC hgw
    go_wp2_with (first
      | (at_next; refine wpList_next_disk rfl _ rfl k.m w.heap.size k.rs.length k.rs left cnt rfl hrg ?_ ?_)
      | go_in)
    · intro _ hl0
      have hperm := HC.out.perm HRG.out.owns law9 Try.underlying9 hl0
      rw [strKeys_ents] at hperm
      have HS : Hid (ss.mergeSort leB = k.rs.map Rw.nm) := (mergeSort_of_perm hperm).trans HD.out.sorted
      have HL : Hid (ss.length = (k.rs.map Rw.nm).length) := hperm.length_eq
      have HG : Hid (Below w.heap.size w wr) := (Below.refl _ w).grown HGW.out (Nat.le_refl _) (fun k e => by cases e)
      rcases hrow.2 with ⟨hnil, hz⟩ | ⟨g, cap, cur, hv, hbase, hb, h1, h2, h3, h4⟩
      · subst hnil
        have hse : ss = [] := List.length_eq_zero_iff.1 hz
        go_wp2_with (go_at_call 58; refine (sort_nil none 0 _).mono ?_; rintro e w' ⟨rfl, rfl⟩)
        go_ret
        refine ⟨_, rfl, ?_, HG.out⟩
        have e1 := HL.out
        rw [hse] at e1
        have : k.rs.map Rw.nm = [] := List.length_eq_zero_iff.1 e1.symm
        rw [this]
        exact World.ownsRow_nil _ _ _ _
      · subst hv
        have hs := sort_any g 0 cap ss wr (holds_of_block hb (by simpa using h4)) (Array.getElem?_eq_some_iff.1 hb).1 (by omega)
        have HO : Hid (∀ n os, (Go.Sort.grow (Go.Sort.putRow encStr (Go.Sort.ahead wr n) g 0 (ss.mergeSort leB).toArray) os).ownsRow w.heap.size 9 1 (.slice (some ⟨g, 0, none⟩) ss.length cap) ss.length ((ss.mergeSort leB).map encStr)) := fun n os => ownsRow_sorted (by simp) hbase hb h1 h2 h3
        have HBB : Hid (∀ n os, Below w.heap.size w (Go.Sort.grow (Go.Sort.putRow encStr (Go.Sort.ahead wr n) g 0 (ss.mergeSort leB).toArray) os)) := fun n os => HG.out.grown (grownBy_sorted _) HG.out.size (fun j hj => by cases hj; exact hbase)
        clear hb h4 hrow
        go_wp2_with (go_at_call 58; refine hs.mono ?_; rintro e w' ⟨rfl, nn, os, rfl⟩)
        go_ret
        refine ⟨_, rfl, ?_, HBB.out _ _⟩
        have := HO.out nn os
        rw [HS.out, HL.out] at this
        rw [HS.out, HL.out]
        exact this
    · intro f w2 cnt2 hf hlk hfl hleft hrg2 hlt hg2 hs2 hen
      have hgw2 := HGW.out.andThen hg2 (fun j hj => by cases hj; exact Or.inl (Nat.le_refl _))
      have hrow2 := row_kept HROW.out hg2 (row_ne_iter HROW.out HRG.out)
      have HC2 : Hid (Collected (.map (k.rs.map Rw.ent)) (fun z => left z && !z.sameKey (.string f.nm)) (ss ++ [f.nm])) := HC.out.step (y := .lit (.int .i64 (f.b : Int))) hleft (fun zd => by rw [atKey_ents, hlk])
      have hiter := row_ne_iter hrow2 hrg2
      have hlow : some k.m ≠ Value.ownBlock u3 := row_ne_low hrow2 hmS
      have hsz2 : w.heap.size ≤ w2.heap.size := hgw2.size
      clear hs2 hlk hrow hleft hg2
      go_wp2_with (first
        | (at_builtin; refine wpList_append_own_at _ rfl _ _ 47 rfl w.heap.size 9 i0 (.string ByteArray.empty) 1 16 Try.underlying47 hi hz0 hz1 hz2 rfl (by decide) _ _ _ rfl (World.ownsRow.alloc hrow2 _) ⟨w2.heap.size, 0, none⟩ 1 1 [.string ⟨f.nm.toArray⟩] rfl rfl (cell_one_new _ _ _) (by simp [Value.oneCell']) (by unfold maxLen; omega) (by omega) (by simp; omega) ?_; intro v' w3 hown3 hg3 hnil3 hloc3)
        | go_in)
      have hrg3 := (hrg2.alloc (.cells #[.string ⟨f.nm.toArray⟩] 9)).kept hg3 hlow hiter
      refine ⟨⟨_, cnt2, ss ++ [f.nm], hrg3, HC2.out, (hgw2.andThen (World.grownBy_alloc w2 _ none) (by simp)).andThen hg3 (fun j hj => .inl (World.ownsRow.lt hrow2 j hj).1), by simpa using hown3, by simp; omega⟩, ?_⟩
      rw [hrg3.left_eq, HRG.out.left_eq]
      exact hlt

/-- A file as it lies in memory, handed out. -/
structure Fl where
  nm : List UInt8
  a : Option Addr
  c : Nat
  dat : List UInt8
  syn : Int
def Fl.x (f : Fl) : Value := .slice f.a f.dat.length f.c
def Fl.cells (f : Fl) : List Value := [.string ⟨f.nm.toArray⟩, f.x, .int .i64 f.syn]
/-- What it says. -/
def Fl.says (f : Fl) : List UInt8 × List UInt8 × Int := (f.nm, f.dat, f.syn)
def PF.says (f : PF) : List UInt8 × List UInt8 × Int := (f.nm, f.dat, (f.syn : Int))
def Rw.says (r : Rw) : List UInt8 × List UInt8 × Int := (r.nm, r.dat, (r.syn : Int))
def cellsOf (fs : List Fl) : List Value := (fs.map Fl.cells).flatten
/-- v is a new slice of files. -/
structure FilesIn (N : Nat) (w : World) (v : Value) (fs : List Fl) : Prop where
  row : w.ownsRow N 37 3 v fs.length (cellsOf fs)
  own : ∀ f ∈ fs, Ow N w f.x f.dat

theorem info37 : (Try.prog.info? 37).map (fun i => (i.zero, i.size, i.bytes)) = some (some (.agg #[.string ByteArray.empty, .slice none 0 0, .int .i64 0]), 3, 48) := by kernel_rfl

theorem step_append_fl {ops : Array Oper} {o : Oper} {a : Act} {w : World} {K : Act → World → Prop} {Q : Exit → Act → World → Prop} {E : Prop}
    (hg : o.guard = none) (s x : Operand) (hop : o.op = Op.call { callee := Callee.builtin Builtin.append, args := #[s, x], argTypes := #[28, 28] })
    (N : Nat) (v : Value) (n : Nat) (xs : List Value) (hs : a.eval s = v) (hv : w.ownsRow N 37 3 v n xs) (g : Nat) (hx : a.eval x = .slice (some ⟨g, 0, none⟩) 1 1) (f : Fl) (hc : w.heap[g]? = some (.cells #[.string ⟨f.nm.toArray⟩, f.x, .int .i64 f.syn] 37 (0, 0))) (hlen : n ≤ 1000) (hN : N ≤ w.heap.size)
    (hK : ∀ v' w', w'.ownsRow N 37 3 v' (n + 1) (xs ++ f.cells) → w.grownBy w' v.ownBlock → (v'.ownBlock = v.ownBlock ∨ v'.ownBlock = some w.heap.size) → K (a.put o.dst v') w') :
    if Region.wanted o (yielded ops a.tmps) = true then Oper.wp Try.prog o a w K Q else E := by
  have hw : Region.wanted o (yielded ops a.tmps) = true := by simp [Region.wanted, hg]
  rw [if_pos hw]
  obtain ⟨i0, hi, hz0, hz1, hz2⟩ := info_parts info37
  obtain ⟨v', w', hr, h2, h3, _, h4⟩ := run_append_own_at (P := Try.prog) w N 28 o.type 37 i0 _ 3 48 Try.underlying28 hi hz0 hz1 hz2 rfl (by decide) v n xs hv ⟨g, 0, none⟩ 1 1 f.cells rfl (fun j u hj => by
    have : w.cell? ((⟨g, 0, none⟩ : Addr).add j) = #[Value.string ⟨f.nm.toArray⟩, f.x, .int .i64 f.syn][j]? := by
      rw [Addr.add_lit]
      simp [World.cell?, hc]
    rw [this]
    simpa [Fl.cells] using hj) (fun u hu => by simp [Fl.cells, Fl.x] at hu; rcases hu with rfl | rfl | rfl <;> rfl) (by unfold maxLen; omega) (by omega) hN
  unfold Oper.wp
  simp [execOp, hop, resolve, invoke, builtin, hs, hx, hr, Result.andThen]
  exact hK v' w' h2 h3 h4

section
variable {ops : Array Oper} {rest : List Oper} {o : Oper} {a : Act} {Q : Exit → Act → World → Prop} {w : World}
theorem wpList_look1_some (hg : o.guard = none) (m x : Operand) (hop : o.op = Op.lookup 62 m x false) (B n : Nat) (rs : List Rw) (hm : a.eval m = .map (some B)) (hown : w.ownsMap Try.prog 9 ptrElem B n (.map (rs.map Rw.ent))) (nm : List UInt8) (hx : a.eval x = .string ⟨nm.toArray⟩) (hn : nm.length ≤ maxLen) (r : Rw) (hf : look nm rs = some r)
    (hK : wpList Try.prog ops Q rest (a.put o.dst (.pointer (some ⟨r.b, 0, none⟩))) w) : wpList Try.prog ops Q (o :: rest) a w := by
  refine wpList_plain hg fun K' hK' => ?_
  obtain ⟨v, ps, hrun, hv⟩ := World.ownsMap.lookup hown law9 Try.underlying62 (zero63 w) (zd := .nil) (zp := []) rfl (key9 nm hn)
  rw [atKey_ents, hf] at hv
  rw [ptrElem_at hv] at hrun
  unfold Oper.wp
  simp [execOp, hop, hm, hx, hrun, Result.andThen]
  exact hK' _ _ hK
end

theorem row_below {N : Nat} {w w' : World} {e : TypeId} {sz : Nat} {v : Value} {n : Nat} {xs : List Value} (h : w.ownsRow N e sz v n xs) (hB : Below w.heap.size w w') : w'.ownsRow N e sz v n xs :=
  World.ownsRow.kept (row := none) h ⟨hB.os, hB.tape, hB.output, hB.size, fun k hk _ => hB.block k hk⟩ (by cases v.ownBlock <;> simp)
theorem rows_apart {N M : Nat} {w : World} {v u : Value} {n : Nat} {xs : List Value} {l : List UInt8} (h : w.ownsRow N 37 3 v n xs) (hu : Ow M w u l) : u.ownBlock = none ∨ u.ownBlock ≠ v.ownBlock := by
  rcases hu.2 with ⟨rfl, _⟩ | ⟨g, cap, cur, rfl, _, hgb, _⟩
  · exact .inl rfl
  · right
    rcases h.2 with ⟨rfl, _⟩ | ⟨g', cap', cur', rfl, _, hgb', _⟩
    · simp [Value.ownBlock]
    · intro e
      simp [Value.ownBlock] at e
      subst e
      rw [hgb] at hgb'
      simp at hgb'
theorem take_rw {rs : List Rw} {j : Nat} (h : j < rs.length) : rs.take (j + 1) = rs.take j ++ [rs[j]] := List.take_succ_eq_append_getElem h

theorem FilesIn.base {N M : Nat} {w : World} {v : Value} {fs : List Fl} (h : FilesIn N w v fs) (hM : M ≤ N) : FilesIn M w v fs :=
  ⟨⟨h.row.1, h.row.2.imp id (fun ⟨g, cap, cur, e, hg, r⟩ => ⟨g, cap, cur, e, Nat.le_trans hM hg, r⟩)⟩, fun f hf => (h.own f hf).base hM⟩

set_option maxRecDepth 100000 in
set_option maxHeartbeats 8000000 in
theorem files_any {S : Nat → Prop} {w : World} {d : Nat} {k : DS} (h : DkC S w d k) : Calls Try.prog 27 #[.pointer (some ⟨d, 0, none⟩)] w fun r w' => ∃ v fs, r = .returned v ∧ FilesIn w.heap.size w' v fs ∧ fs.map Fl.says = k.rs.map Rw.says ∧ Below w.heap.size w w' := by
  obtain ⟨⟨c0, -⟩, -⟩ := h.cells
  have hli := list_any h
  have hfew := h.few
  have HD : Hid (DkC S w d k) := h
  clear h
  go_enter Try.func27, Try.ntmps27
  go_wp2_with fail
  refine hli.mono ?_
  rintro r w1 ⟨tv, rfl, hT, hB1⟩
  have HT : Hid (TextsIn w.heap.size w1 tv (k.rs.map Rw.nm)) := hT
  obtain ⟨ta, tc, rfl, htc⟩ : ∃ ta tc, tv = .slice ta k.rs.length tc ∧ k.rs.length ≤ tc := by
    rcases hT.2 with ⟨rfl, h0⟩ | ⟨g, cap, cur, rfl, _, _, h3, _⟩
    · rw [List.length_map] at h0
      exact ⟨none, 0, by rw [h0], by omega⟩
    · rw [List.length_map] at h3 ⊢
      exact ⟨_, _, rfl, h3⟩
  clear hT
  go_wp2_with fail
  go_loopw [3, 10] (fun sv iv wr => ∃ (j : Nat) (fl : List Fl), iv = .int .i64 (j : Int) ∧ j ≤ k.rs.length ∧ FilesIn w1.heap.size wr sv fl ∧ fl.map Fl.says = (k.rs.take j).map Rw.says ∧ Below w.heap.size w wr ∧ Below w1.heap.size w1 wr) (fun _ iv _ => k.rs.length - (intOf iv).toNat)
  case atStart => exact ⟨0, [], rfl, Nat.zero_le _, ⟨World.ownsRow_nil _ _ _ _, by simp⟩, by simp, hB1, Below.refl _ _⟩
  case round =>
    obtain ⟨j, fl, rfl, hj, hfi, hsay, hB, hB1'⟩ := hrel
    have HFI : Hid (FilesIn w1.heap.size wr u3 fl) := hfi
    have HS : Hid (fl.map Fl.says = (k.rs.take j).map Rw.says) := hsay
    have HB : Hid (Below w.heap.size w wr) := hB
    have HB1 : Hid (Below w1.heap.size w1 wr) := hB1'
    clear hfi hsay
    by_cases hlt : j < k.rs.length
    · obtain ⟨r, hre⟩ : ∃ r, k.rs[j] = r := ⟨_, rfl⟩
      have hr : r ∈ k.rs := by rw [← hre]; exact List.getElem_mem hlt
      have hA := (At.start HD.out).below hB
      have hF := hA.dk.fs r hr
      have hlk := hA.dk.look hr
      have hnl : r.nm.length ≤ maxLen := by have := hF.nm; unfold maxLen; omega
      have hmr := hA.dk.hm
      obtain ⟨⟨e0, -⟩, -⟩ := hA.dk.cells
      obtain ⟨⟨g0, g1⟩, -⟩ := hF.cells
      obtain ⟨av, capv, hv, hlc, hcm⟩ := hF.own.shape
      have hown := hF.own
      rw [hv] at g0 hown
      have hfr := fresh_any wr.heap.size _ r.dat wr.drew ((hown.sl (Nat.le_refl _)).below ⟨rfl, rfl, rfl, Nat.le_refl _, fun _ _ => rfl⟩) (by have h7 := sum_del_le hr; have := HD.out.all; omega)
      have hbw : r.b < wr.heap.size := hA.dk.inn _ (hA.dk.Sf r hr).1
      have HL : Hid (fl.length = j) := by
        have := congrArg List.length HS.out
        simp at this
        show fl.length = j
        omega
      have HT2 : Hid (wr.ownsRow w.heap.size 9 1 (.slice ta k.rs.length tc) k.rs.length ((k.rs.map Rw.nm).map encStr)) := by
        have h9 := row_below HT.out HB1.out
        rw [List.length_map] at h9
        exact h9
      obtain ⟨tb, rfl⟩ : ∃ tb, ta = some ⟨tb, 0, none⟩ := by
        rcases HT2.out.2 with ⟨hv0, h0⟩ | ⟨g, cap, cur, hv0, _⟩
        · omega
        · cases hv0; exact ⟨g, rfl⟩
      have HNE : Hid (some r.b ≠ Value.ownBlock u3) := by
        show some r.b ≠ _
        intro e
        rcases HFI.out.row.2 with ⟨hv0, _⟩ | ⟨g, cap, cur, hv0, _, hb0, _⟩
        · rw [hv0] at e; simp [Value.ownBlock] at e
        · rw [hv0] at e
          simp [Value.ownBlock] at e
          exact hF.ne hb0 (by simp) e
      have hcell : wr.cell? ⟨tb, j, none⟩ = some (.string ⟨r.nm.toArray⟩) := by
        have := World.ownsRow.cellAt HT2.out j (by omega)
        simpa [hlt, hre] using this
      have hij : (j : Int) < (k.rs.length : Int) := by omega
      have HTK : Hid (k.rs.take (j + 1) = k.rs.take j ++ [r]) := by show _ = _; rw [take_rw hlt, hre]
      clear hv hF hown hA hre hlt
      go_wp2_with (first | (at_lookup; refine wpList_look1_some rfl _ _ rfl _ _ _ rfl hmr r.nm rfl hnl r hlk ?_) | fail)
      go_region_held3 (fun w' => w'.cell? ⟨r.b, 0, none⟩ = some (.slice av r.dat.length capv) ∧ w'.cell? ⟨r.b, 1, none⟩ = some (.int .i64 (r.syn : Int))) (go_keep)
        (first
          | (go_at_call 51; refine hfr.mono ?_; rintro e w5 ⟨v5, rfl, hO5, hB5⟩; obtain ⟨ba, bc, rfl, -, -⟩ := hO5.shape; have hB5x : Below wr.heap.size wr w5 := ⟨hB5.os, hB5.tape, hB5.output, hB5.size, hB5.block⟩; have k0 := (hB5x.cell (p := ⟨r.b, 0, none⟩) hbw).trans g0; have k1 := (hB5x.cell (p := ⟨r.b, 1, none⟩) hbw).trans g1)
          | (refine step_append_fl rfl (.tmp 20) (.tmp 32) rfl w1.heap.size u3 fl.length (cellsOf fl) (by simp [Act.eval]) (World.ownsRow.alloc (row_below HFI.out.row hB5x) _) w5.heap.size (by simp [Act.eval]) ⟨r.nm, ba, bc, r.dat, (r.syn : Int)⟩ (heap_alloc_new w5 _) (by have := HL.out; omega) (by have h1 := HB1.out.size; have h2 := hB5x.size; simp only [World.size_alloc]; omega) ?_; intro v6 w6 hrow6 hg6 hl6; have m0 := hg6.cell (World.grownBy.cell (World.grownBy_alloc w5 _ none) k0 (by simp)) HNE.out; have m1 := hg6.cell (World.grownBy.cell (World.grownBy_alloc w5 _ none) k1 (by simp)) HNE.out)
          | fail)
      have hrow5 := World.ownsRow.alloc (row_below HFI.out.row hB5x) (.cells #[.string ⟨r.nm.toArray⟩, .slice ba r.dat.length bc, .int .i64 (r.syn : Int)] 37)
      have hzz : w1.heap.size ≤ w5.heap.size := Nat.le_trans HB1.out.size hB5x.size
      have HEND : Hid (FilesIn w1.heap.size w6 v6 (fl ++ [⟨r.nm, ba, bc, r.dat, (r.syn : Int)⟩]) ∧ (fl ++ [(⟨r.nm, ba, bc, r.dat, (r.syn : Int)⟩ : Fl)]).map Fl.says = (k.rs.take (j + 1)).map Rw.says ∧ Below w.heap.size w w6 ∧ Below w1.heap.size w1 w6) := by
        refine ⟨⟨by simpa [cellsOf] using hrow6, fun f hf => ?_⟩, ?_, ?_, ?_⟩
        · rcases List.mem_append.1 hf with hf | hf
          · have h9 := (Ow.below (HFI.out.own f hf) hB5x (Nat.le_refl _)).alloc (.cells #[.string ⟨r.nm.toArray⟩, .slice ba r.dat.length bc, .int .i64 (r.syn : Int)] 37)
            exact h9.kept hg6 (rows_apart hrow5 h9)
          · obtain rfl : f = _ := by simpa using hf
            have h9 := (Ow.base (N' := w1.heap.size) hO5 HB1.out.size).alloc (.cells #[.string ⟨r.nm.toArray⟩, .slice ba r.dat.length bc, .int .i64 (r.syn : Int)] 37)
            exact h9.kept hg6 (rows_apart hrow5 h9)
        · rw [HTK.out, List.map_append, List.map_append, HS.out]; rfl
        · exact ((HB.out.trans (hB5x.mono HB.out.size)).alloc (Nat.le_trans HB.out.size hB5x.size) _).grown hg6 (by simp only [World.size_alloc]; have h1 := HB.out.size; have h2 := hB5x.size; omega) (fun j hj => by have h1 := (World.ownsRow.lt hrow5 j hj).1; have h2 := hB1.size; omega)
        · exact ((HB1.out.trans (hB5x.mono HB1.out.size)).alloc hzz _).grown hg6 (by simp only [World.size_alloc]; omega) (fun j hj => (World.ownsRow.lt hrow5 j hj).1)
      clear hrow6 hg6 hl6 m0 m1 k0 k1 hrow5 hO5
      go_wp2
      exact ⟨⟨j + 1, _, by go_num, by omega, HEND.out.1, HEND.out.2.1, HEND.out.2.2.1, HEND.out.2.2.2⟩, by simp [intOf]; omega⟩
    · have HE : Hid (k.rs.take j = k.rs) := List.take_of_length_le (by omega)
      go_wp2
      go_ret
      exact ⟨_, fl, rfl, HFI.out.base hB1.size, by rw [HS.out, HE.out], HB.out⟩

end Go.Proofs.Ytbjnhohfdpdcnaa
