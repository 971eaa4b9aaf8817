/-
  What holds of every disk is kept by its writes; by Save, by Keep. The document: which snapshots there are.
-/
import Derived.Test.YtadajbdmlmickaaGreatDoorKrc
import Derived.Test.YtadajbdmlmickaaGreatDoorPk
import Derived.Test.YtadajbdmlmickaaGreatDoorSw
import Derived.Test.YtadajbdmlmickaaGreatDoorLs
import Derived.Test.YtadajbdmlmickaaGreatDoorKrd
import Derived.Test.YtadajbdmlmickaaGreatDoorKrg
namespace Go.Proofs.YtadajbdmlmickaaGreatDoor
open Go.RowKit
set_option linter.unusedVariables false

theorem before_or : ∀ {a b : List UInt8}, bytesBefore a b = false → a ≠ b → bytesBefore b a = true
  | [], [], _, h => absurd rfl h
  | [], _ :: _, h, _ => by simp [bytesBefore] at h
  | _ :: _, [], _, _ => by simp [bytesBefore]
  | x :: r, y :: s, h, hn => by
    simp only [bytesBefore, Bool.or_eq_false_iff, Bool.and_eq_false_iff, decide_eq_false_iff_not] at h
    simp only [bytesBefore, Bool.or_eq_true, Bool.and_eq_true, decide_eq_true_eq, beq_iff_eq]
    by_cases e : x = y
    · subst e
      refine .inr ⟨rfl, before_or ?_ (fun e => hn (by rw [e]))⟩
      rcases h.2 with h2 | h2
      · simp at h2
      · exact h2
    · left
      have h1 := h.1
      have hne : x.toNat ≠ y.toNat := fun e' => e (UInt8.toNat_inj.1 e')
      rw [UInt8.lt_iff_toNat_lt] at h1 ⊢
      omega
theorem before_trans : ∀ {a b c : List UInt8}, bytesBefore a b = true → bytesBefore b c = true → bytesBefore a c = true
  | [], [], _, h, _ => by simp [bytesBefore] at h
  | [], _ :: _, [], _, h => by simp [bytesBefore] at h
  | [], _ :: _, _ :: _, _, _ => by simp [bytesBefore]
  | _ :: _, [], _, h, _ => by simp [bytesBefore] at h
  | _ :: _, _ :: _, [], _, h => by simp [bytesBefore] at h
  | x :: r, y :: s, z :: t, h, k => by
    simp only [bytesBefore, Bool.or_eq_true, Bool.and_eq_true, decide_eq_true_eq, beq_iff_eq] at h k ⊢
    rcases h with h | ⟨rfl, h⟩
    · rcases k with k | ⟨rfl, k⟩
      · exact .inl (UInt8.lt_trans h k)
      · exact .inl h
    · rcases k with k | ⟨rfl, k⟩
      · exact .inl k
      · exact .inr ⟨rfl, before_trans h k⟩
theorem rise_ins {f : PF} : ∀ {l : List PF}, l.Pairwise (fun f g => bytesBefore f.nm g.nm = true) → (∀ q ∈ l, q.nm ≠ f.nm) → (insP f l).Pairwise (fun f g => bytesBefore f.nm g.nm = true)
  | [], _, _ => by simp [insP]
  | y :: q, h, hn => by
    unfold insP
    obtain ⟨h1, h2⟩ := List.pairwise_cons.1 h
    split
    · rename_i hb
      refine List.pairwise_cons.2 ⟨fun z hz => ?_, h⟩
      rcases List.mem_cons.1 hz with rfl | hz
      · exact hb
      · exact before_trans hb (h1 z hz)
    · rename_i hb
      refine List.pairwise_cons.2 ⟨fun z hz => ?_, rise_ins h2 (fun q hq => hn q (List.mem_cons_of_mem _ hq))⟩
      rcases mem_insP.1 hz with rfl | hz
      · exact before_or (by simpa using hb) (fun e => hn y (List.mem_cons_self ..) e.symm)
      · exact h1 z hz
theorem rise_map (g : PF → PF) (hg : ∀ f, (g f).nm = f.nm) {l : List PF} (h : l.Pairwise (fun f g => bytesBefore f.nm g.nm = true)) : (l.map g).Pairwise (fun f g => bytesBefore f.nm g.nm = true) := by
  rw [List.pairwise_map]
  exact h.imp (fun hab => by rw [hg, hg]; exact hab)
theorem rise_del (nm : List UInt8) {l : List PF} (h : l.Pairwise (fun f g => bytesBefore f.nm g.nm = true)) : (delP nm l).Pairwise (fun f g => bytesBefore f.nm g.nm = true) := h.filter _
theorem fail_fs (p : PD) : p.fail.fs = p.fs := pd_fail_fs p
theorem told_rise {p : PD} (h : p.fs.Pairwise (fun f g => bytesBefore f.nm g.nm = true)) (o : Opn) : (toldP p o).2.fs.Pairwise (fun f g => bytesBefore f.nm g.nm = true) := by
  have hf : p.fail.fs.Pairwise (fun f g => bytesBefore f.nm g.nm = true) := by rw [fail_fs]; exact h
  unfold toldP
  split
  · unfold doCreate
    repeat' split
    all_goals first | exact h | exact hf | exact rise_ins (rise_del _ h) (fun q hq => mem_del hq)
  split
  · unfold doAppend
    repeat' split
    all_goals first | exact h | exact hf | (refine rise_map _ (fun f => ?_) h; unfold appP; split <;> rfl)
  split
  · unfold doSync
    repeat' split
    all_goals first | exact h | exact hf | (refine rise_map _ (fun f => ?_) h; unfold syncP; split <;> rfl)
  split
  · unfold doCut
    repeat' split
    all_goals first | exact h | exact hf | (refine rise_map _ (fun f => ?_) h; unfold cutP; split <;> rfl)
  split
  · unfold doRename
    repeat' split
    all_goals first | exact h | exact hf | exact rise_ins (rise_del _ (rise_del _ (rise_del _ h))) (fun q hq => mem_del hq)
  split
  · unfold doRemove
    repeat' split
    all_goals first | exact h | exact hf | exact rise_del _ h
  split
  · exact h
  split
  · exact rise_map (crashP o.n) (fun f => rfl) h
  · exact h
abbrev SynOk (l : List PF) : Prop := ∀ f ∈ l, f.syn ≤ f.dat.length
theorem syn_map {l : List PF} (h : SynOk l) (g : PF → PF) (hg : ∀ f, f.syn ≤ f.dat.length → (g f).syn ≤ (g f).dat.length) : SynOk (l.map g) := fun f hf => by
  obtain ⟨q, hq, rfl⟩ := List.mem_map.1 hf
  exact hg q (h q hq)
theorem syn_del {l : List PF} (h : SynOk l) (nm : List UInt8) : SynOk (delP nm l) := fun f hf => h f (List.mem_filter.1 hf).1
theorem syn_ins {l : List PF} (h : SynOk l) {f : PF} (hf : f.syn ≤ f.dat.length) : SynOk (insP f l) := fun x hx => by
  rcases mem_insP.1 hx with rfl | hx
  · exact hf
  · exact h x hx
theorem told_syn {p : PD} (h : SynOk p.fs) (o : Opn) : SynOk (toldP p o).2.fs := by
  have hf : SynOk p.fail.fs := by rw [fail_fs]; exact h
  unfold toldP
  split
  · unfold doCreate
    repeat' split
    all_goals first | exact h | exact hf | exact syn_ins (syn_del h _) (Nat.zero_le _)
  split
  · unfold doAppend
    repeat' split
    all_goals first | exact h | exact hf | (refine syn_map h _ (fun f hf => ?_); unfold appP; split <;> first | omega | (simp; done) | (simp; omega))
  split
  · unfold doSync
    repeat' split
    all_goals first | exact h | exact hf | (refine syn_map h _ (fun f hf => ?_); unfold syncP; split <;> first | omega | (simp; done) | (simp; omega))
  split
  · unfold doCut
    repeat' split
    all_goals first | exact h | exact hf | (refine syn_map h _ (fun f hf => ?_); unfold cutP; split <;> first | omega | (simp; done) | (simp; omega))
  split
  · unfold doRename
    split
    · exact h
    · split
      · exact h
      · rename_i f hl
        have hs := h f (lookP_nm hl).1
        repeat' split
        all_goals first | exact h | exact hf | exact syn_ins (syn_del (syn_del (syn_del h _) _) _) hs
  split
  · unfold doRemove
    repeat' split
    all_goals first | exact h | exact hf | exact syn_del h _
  split
  · exact h
  split
  · refine syn_map h _ (fun f hf => ?_)
    unfold crashP
    simp only [List.length_take]
    split <;> omega
  · exact h
theorem Good.told {p : PD} (h : Good p) (o : Opn) (ho : o.n < 9223372036854775808) : Good (toldP p o).2 :=
  ⟨told_rise h.rise o, told_names h.nms o, told_syn h.syn o, told_arm h.arm o ho⟩
theorem Good.create {p : PD} (h : Good p) (nm : List UInt8) : Good (doCreate p nm).2 := h.told ⟨0, 0, nm, [], none, 0, []⟩ (by show (0 : Int) < _; decide)
theorem Good.append {p : PD} (h : Good p) (nm b : List UInt8) : Good (doAppend p nm b).2 := h.told ⟨1, 0, nm, [], none, 0, b⟩ (by show (0 : Int) < _; decide)
theorem Good.sync {p : PD} (h : Good p) (nm : List UInt8) : Good (doSync p nm).2 := h.told ⟨2, 0, nm, [], none, 0, []⟩ (by show (0 : Int) < _; decide)
theorem Good.rename {p : PD} (h : Good p) (nm tn : List UInt8) : Good (doRename p nm tn).2 := h.told ⟨4, 0, nm, tn, none, 0, []⟩ (by show (0 : Int) < _; decide)
theorem Good.remove {p : PD} (h : Good p) (nm : List UInt8) : Good (doRemove p nm).2 := h.told ⟨5, 0, nm, [], none, 0, []⟩ (by show (0 : Int) < _; decide)
theorem Good.thn {x : Nat × PD} {f : PD → Nat × PD} (h : Good x.2) (hf : ∀ q, Good q → Good (f q).2) : Good (thenP x f).2 := by
  unfold thenP
  split
  · exact hf _ h
  · exact h
theorem Good.st1 {p : PD} (h : Good p) : Good (st1 p).2 := by
  unfold Go.Proofs.YtadajbdmlmickaaGreatDoor.st1
  split
  · exact h.remove _
  · exact h
theorem Good.st2 {p : PD} (h : Good p) : Good (st2 p).2 := h.st1.thn (fun q hq => hq.create _)
theorem Good.st3 {p : PD} (h : Good p) (b : List UInt8) : Good (st3 p b).2 := h.st2.thn (fun q hq => hq.append _ _)
theorem Good.st4 {p : PD} (h : Good p) (b : List UInt8) : Good (st4 p b).2 := (h.st3 b).thn (fun q hq => hq.sync _)
theorem Good.saveS {p : PD} (h : Good p) (b : List UInt8) (i : Nat) : Good (saveS p b i).2 := (h.st4 b).thn (fun q hq => hq.rename _ _)
theorem Good.save {p : PD} (h : Good p) (i t : Int) (m : List UInt8) : Good (saveP p i t m).2 := by
  unfold saveP
  split
  · exact h
  · exact h.saveS _ _
theorem Good.rem : ∀ {l : List (List UInt8)} {p : PD}, Good p → Good (remL p l).2
  | [], _, h => h
  | x :: r, _, h => (h.remove x).thn (fun q hq => Good.rem hq)
end Go.Proofs.YtadajbdmlmickaaGreatDoor
namespace Go.Proofs.YtadajbdmlmickaaGreatDoor
open Go.RowKit Go.Shelf
set_option linter.unusedVariables false

set_option maxRecDepth 100000 in
set_option maxHeartbeats 4000000 in
theorem refListS {S : Nat → Prop} {w : World} {B : Nat} {p : PD} (h : RDs S w B p) (hg : Good p) :
    Calls Tryz.prog 17 #[.pointer (some ⟨B, 0, none⟩)] w fun r w' => ∃ a c, r = .returned (.slice a (listP p).length c) ∧ In.Ow w.heap.size w' (.slice a (listP p).length c) (ixI (listP p)) ∧ Below w.heap.size w w' := by
  obtain ⟨vv, fs, l, hd⟩ := h
  have HL : Hid (Calls _ _ _ _ _) := refList hd.rd
  have hfew : p.fs.length ≤ 256 := by have := hd.rd.len; have := hd.rd.fw; omega
  have HNL : Hid (∀ x ∈ p.fs.map PF.nm, x.length ≤ 32) := fun x hx => by
    obtain ⟨f, hf, rfl⟩ := List.mem_map.1 hx
    exact isNm_len (hg.nms f hf)
  rw [pick_list]
  clear hd hg
  obtain ⟨ts, hts⟩ : ∃ ts, p.fs.map PF.nm = ts := ⟨_, rfl⟩
  rw [hts] at HL HNL ⊢
  have HTL : Hid (ts.length = p.fs.length) := by show _ = _; rw [← hts]; simp
  obtain ⟨q, hq⟩ : ∃ q, p.fs.length = q := ⟨_, rfl⟩
  rw [hq] at HL HTL hfew
  clear hts hq
  go_enter Tryz.func17, Tryz.ntmps17
  go_wp2_with fail
  refine HL.out.mono ?_
  rintro r w1 ⟨a1, c1, rfl, hT1, hB1⟩
  have HT1 : Hid (TextsIn w.heap.size w1 (.slice a1 q c1) ts) := hT1
  have HB1 : Hid (Below w.heap.size w w1) := hB1
  clear hT1 hB1 HL
  go_wp2_with fail
  go_loopw [3, 5] (fun rv kv wr => ∃ k : Nat, kv = .int .i64 (k : Int) ∧ k ≤ q ∧ In.Ow w1.heap.size wr rv (ixI (pickI (ts.take k))) ∧ Below w1.heap.size w1 wr) (fun _ kv _ => q - (intOf kv).toNat)
  case atStart => exact ⟨0, rfl, Nat.zero_le _, In.Ow.nil _ _, Below.refl _ _⟩
  case round =>
    obtain ⟨k, rfl, hk, hO, hB⟩ := hrel
    have HO : Hid (In.Ow w1.heap.size wr u3 (ixI (pickI (ts.take k)))) := hO
    have HB : Hid (Below w1.heap.size w1 wr) := hB
    clear hO hB
    by_cases hlt : k < q
    · obtain ⟨gb, ha, -, hgl, hc⟩ := texts_at HT1.out HTL.out hlt
      subst ha
      have hc' := (HB.out.cell (p := ⟨gb, k, none⟩) hgl).trans hc
      have hgl' : gb < wr.heap.size := Nat.lt_of_lt_of_le hgl HB.out.size
      have hmem : ts.getD k [] ∈ ts := by rw [List.getD_eq_getElem?_getD, List.getElem?_eq_getElem (by have := HTL.out; omega)]; exact List.getElem_mem _
      have hxl := HNL.out _ hmem
      have HSN : Hid (pickI (ts.take (k + 1)) = if 0 < idxL (ts.getD k []) then pickI (ts.take k) ++ [idxL (ts.getD k [])] else pickI (ts.take k)) := by
        show _ = _
        rw [← pick_snoc, List.take_succ_eq_append_getElem (by have := HTL.out; omega), List.getD_eq_getElem?_getD, List.getElem?_eq_getElem (by have := HTL.out; omega)]
        rfl
      have HLN : Hid ((pickI (ts.take k)).length ≤ 256) := by have := pick_len (ts.take k); have := List.length_take_le k ts; show _ ≤ _; omega
      clear hc hmem
      obtain ⟨x, hx⟩ : ∃ x, ts.getD k [] = x := ⟨_, rfl⟩
      rw [hx] at hc' hxl HSN
      clear hx
      have HIX : Hid (Calls _ _ _ _ _) := refIndex_any x (by omega) wr
      have k0 : (0 : Int) ≤ (k : Int) := by omega
      have k1 : (k : Int) < (q : Int) := by omega
      clear hxl
      go_wp2_with fail
      refine HIX.out.mono ?_
      rintro r w2 ⟨rfl, rfl⟩
      have HB2 : Hid (Below w1.heap.size w1 w2) := HB.out
      have HO2 : Hid (In.Ow w1.heap.size w2 u3 (ixI (pickI (ts.take k)))) := HO.out
      clear HIX HO HB hc'
      by_cases h0 : 0 < idxL x
      · rw [if_pos h0] at HSN
        have h0' : (0 : Int) < ((idxL x : Nat) : Int) := by omega
        obtain ⟨z, hz⟩ : ∃ z, idxL x = z := ⟨_, rfl⟩
        rw [hz] at HSN h0' ⊢
        obtain ⟨ra, rc, hu3, hrc, -⟩ := HO2.out.shape
        subst hu3
        have hs2 := In.sl_one w2 (z : Int)
        have hO2 := HO2.out.alloc (.cells #[.int .i64 (z : Int)] 3)
        have hz12 : w1.heap.size ≤ w2.heap.size := HB2.out.size
        have hlen : (ixI (pickI (ts.take k))).length + 1 ≤ 1099511627776 := by have := HLN.out; simp [ixI]; omega
        clear hz h0
        go_wp2_with (at_builtin; refine In.wpList_append_ow rfl _ _ rfl w1.heap.size _ _ _ (ixI (pickI (ts.take k))) [(z : Int)] rfl hO2 rfl hs2 (by simpa using hlen) (by simp; omega) ?_; intro v3 w3 hO3 hg3 hn3; have HO3 : Hid (In.Ow w1.heap.size w3 v3 (ixI (pickI (ts.take (k + 1))))) := (by show In.Ow _ _ _ _; rw [HSN.out]; unfold ixI; rw [List.map_append]; exact hO3); have HB3 : Hid (Below w1.heap.size w1 w3) := (HB2.out.alloc HB2.out.size _).grown hg3 (by simp; omega) (fun j hj => (hO2.lt hj).1); clear hO3 hg3 hn3)
        exact ⟨⟨k + 1, by go_num, by omega, HO3.out, HB3.out⟩, by simp [intOf]; omega⟩
      · rw [if_neg h0] at HSN
        have h0' : ¬ (0 : Int) < ((idxL x : Nat) : Int) := by omega
        go_wp2
        exact ⟨⟨k + 1, by go_num, by omega, by rw [HSN.out]; exact HO2.out, HB2.out⟩, by simp [intOf]; omega⟩
    · have hlt' : ¬ (k : Int) < (q : Int) := by omega
      have hkq : ts.take k = ts := List.take_of_length_le (by have := HTL.out; omega)
      rw [hkq] at HO
      obtain ⟨ra, rc, hu3, hrc, -⟩ := HO.out.shape
      subst hu3
      have hle : (ixI (pickI ts)).length = (pickI ts).length := by simp [ixI]
      rw [hle] at hrc ⊢
      have HO4 : Hid (In.Ow w1.heap.size wr (.slice ra (pickI ts).length rc) (ixI (pickI ts))) := by have := HO.out; rwa [hle] at this
      clear HO hkq
      go_wp2
      go_ret
      exact ⟨ra, rc, rfl, HO4.out.base HB1.out.size, HB1.out.trans (HB.out.mono HB1.out.size)⟩
end Go.Proofs.YtadajbdmlmickaaGreatDoor
