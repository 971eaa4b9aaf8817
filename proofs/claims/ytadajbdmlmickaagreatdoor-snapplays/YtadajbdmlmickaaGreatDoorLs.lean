/-
  List: the indices of the snapshots' files.
-/
import Derived.Test.YtadajbdmlmickaaGreatDoorSx
import Derived.Test.YtadajbdmlmickaaGreatDoorPn
import Derived.Test.YtadajbdmlmickaaGreatDoorSrti
namespace Go.Proofs.YtadajbdmlmickaaGreatDoor
open Go.RowKit
set_option linter.unusedVariables false

/-- Indices, as the program has them. -/
def ixI (l : List Nat) : List Int := l.map fun (n : Nat) => ((n : Nat) : Int)
def pickI (ns : List (List UInt8)) : List Nat := (ns.map idxL).filter (fun n => decide (0 < n))
theorem pick_list (p : PD) : listP p = pickI (p.fs.map PF.nm) := by unfold listP pickI; rw [List.map_map]; rfl
theorem pick_snoc (ns : List (List UInt8)) (x : List UInt8) : pickI (ns ++ [x]) = if 0 < idxL x then pickI ns ++ [idxL x] else pickI ns := by
  unfold pickI
  rw [List.map_append, List.filter_append]
  by_cases h : 0 < idxL x
  · rw [if_pos h]; simp [h]
  · rw [if_neg h]; simp; omega
theorem pick_len (ns : List (List UInt8)) : (pickI ns).length ≤ ns.length := by
  unfold pickI; exact Nat.le_trans (List.length_filter_le _ _) (by simp)
theorem texts_at {N : Nat} {w : World} {a : Option Addr} {n c : Nat} {ts : List (List UInt8)} (h : TextsIn N w (.slice a n c) ts) (hn : ts.length = n) {i : Nat} (hi : i < n) : ∃ b, a = some ⟨b, 0, none⟩ ∧ N ≤ b ∧ b < w.heap.size ∧ w.cell? ⟨b, i, none⟩ = some (.string ⟨(ts.getD i []).toArray⟩) := by
  rcases h.2 with ⟨hv, h0⟩ | ⟨g, cap, cur, hv, h1, h2, h3, h4, h5, h6⟩
  · omega
  · cases hv
    refine ⟨g, rfl, h1, (Array.getElem?_eq_some_iff.1 h2).1, ?_⟩
    have h7 : cur.toList[i]? = (ts.map encStr)[i]? := by rw [← h6, List.getElem?_take, if_pos (by omega)]
    simp only [World.cell?, h2]
    rw [← Array.getElem?_toList, h7, List.getElem?_map, List.getElem?_eq_getElem (by omega), List.getD_eq_getElem?_getD, List.getElem?_eq_getElem (by omega)]
    rfl

set_option maxRecDepth 100000 in
set_option maxHeartbeats 4000000 in
theorem list_s {N : Nat} {S : Nat → Prop} {w : World} {d : Nat} {p : PD} (h : Dsk N w S d p) (hv : ∀ V, Below w.heap.size w V → Vars V) :
    Calls Tryz.prog 16 #[.pointer (some ⟨d, 0, none⟩)] w fun r w' => ∃ a c, r = .returned (.slice a (listP p).length c) ∧ In.Ow w.heap.size w' (.slice a (listP p).length c) (ixI (listP p)) ∧ Below w.heap.size w w' := by
  have HL : Hid (Calls _ _ _ _ _) := list_x h
  have HRS : Hid ((listP p).Pairwise (· < ·)) := list_rise h.rise
  have hfew := h.few
  have HNL : Hid (∀ x ∈ p.fs.map PF.nm, x.length ≤ 32) := fun x hx => by
    obtain ⟨f, hf, rfl⟩ := List.mem_map.1 hx
    exact h.nml f hf
  have HV : Hid (∀ V, Below w.heap.size w V → Vars V) := hv
  rw [pick_list] at HRS ⊢
  clear h hv
  obtain ⟨ts, hts⟩ : ∃ ts, p.fs.map PF.nm = ts := ⟨_, rfl⟩
  rw [hts] at HL HRS HNL ⊢
  have HTL : Hid (ts.length = p.fs.length) := by show _ = _; rw [← hts]; simp
  obtain ⟨q, hq⟩ : ∃ q, p.fs.length = q := ⟨_, rfl⟩
  rw [hq] at HL HTL hfew
  clear hts hq
  go_enter Tryz.func16, Tryz.ntmps16
  go_wp2_with fail
  refine HL.out.mono ?_
  rintro r w1 ⟨a1, c1, rfl, hT1, hB1⟩
  have HT1 : Hid (TextsIn w.heap.size w1 (.slice a1 q c1) ts) := hT1
  have HB1 : Hid (Below w.heap.size w w1) := hB1
  clear hT1 hB1 HL
  go_wp2_with fail
  go_loopw [3, 11] (fun rv kv wr => ∃ k : Nat, kv = .int .i64 (k : Int) ∧ k ≤ q ∧ In.Ow w1.heap.size wr rv (ixI (pickI (ts.take k))) ∧ Below w1.heap.size w1 wr) (fun _ kv _ => q - (intOf kv).toNat)
  case atStart => exact ⟨0, rfl, Nat.zero_le _, In.Ow.nil _ _, Below.refl _ _⟩
  case round =>
    obtain ⟨k, rfl, hk, hO, hB⟩ := hrel
    have HO : Hid (In.Ow w1.heap.size wr u3 (ixI (pickI (ts.take k)))) := hO
    have HB : Hid (Below w1.heap.size w1 wr) := hB
    clear hO hB
    by_cases hlt : k < q
    · obtain ⟨gb, ha, -, hgl, hc⟩ := texts_at HT1.out HTL.out hlt
      subst ha
      have hc' := (HB.out.cell (p := ⟨gb, k, none⟩) hgl).trans hc
      have hgl' : gb < wr.heap.size := Nat.lt_of_lt_of_le hgl HB.out.size
      have hmem : ts.getD k [] ∈ ts := by rw [List.getD_eq_getElem?_getD, List.getElem?_eq_getElem (by have := HTL.out; omega)]; exact List.getElem_mem _
      have hxl := HNL.out _ hmem
      have HSN : Hid (pickI (ts.take (k + 1)) = if 0 < idxL (ts.getD k []) then pickI (ts.take k) ++ [idxL (ts.getD k [])] else pickI (ts.take k)) := by
        show _ = _
        rw [← pick_snoc, List.take_succ_eq_append_getElem (by have := HTL.out; omega), List.getD_eq_getElem?_getD, List.getElem?_eq_getElem (by have := HTL.out; omega)]
        rfl
      have HLN : Hid ((pickI (ts.take k)).length ≤ 256) := by have := pick_len (ts.take k); have := List.length_take_le k ts; show _ ≤ _; omega
      clear hc hmem
      obtain ⟨x, hx⟩ : ∃ x, ts.getD k [] = x := ⟨_, rfl⟩
      rw [hx] at hc' hxl HSN
      clear hx
      have HIX : Hid (Calls _ _ _ _ _) := index_any x (by omega) wr (HV.out _ (HB1.out.trans (HB.out.mono HB1.out.size)))
      have k0 : (0 : Int) ≤ (k : Int) := by omega
      have k1 : (k : Int) < (q : Int) := by omega
      clear hxl
      go_wp2_with fail
      refine HIX.out.mono ?_
      rintro r w2 ⟨rfl, hB2⟩
      have HB2 : Hid (Below w1.heap.size w1 w2) := HB.out.trans (hB2.mono HB.out.size)
      have HO2 : Hid (In.Ow w1.heap.size w2 u3 (ixI (pickI (ts.take k)))) := HO.out.below hB2 (Nat.le_refl _)
      clear hB2 HIX HO HB hc'
      by_cases h0 : 0 < idxL x
      · rw [if_pos h0] at HSN
        have h0' : decide (0 < idxL x) = true := by simpa using h0
        rw [h0']
        obtain ⟨z, hz⟩ : ∃ z, idxL x = z := ⟨_, rfl⟩
        rw [hz] at HSN ⊢
        obtain ⟨ra, rc, hu3, hrc, -⟩ := HO2.out.shape
        subst hu3
        have hs2 := In.sl_one w2 (z : Int)
        have hO2 := HO2.out.alloc (.cells #[.int .i64 (z : Int)] 3)
        have hz12 : w1.heap.size ≤ w2.heap.size := HB2.out.size
        have hlen : (ixI (pickI (ts.take k))).length + 1 ≤ 1099511627776 := by have := HLN.out; simp [ixI]; omega
        clear hz h0 h0'
        go_wp2_with (at_builtin; refine In.wpList_append_ow rfl _ _ rfl w1.heap.size _ _ _ (ixI (pickI (ts.take k))) [(z : Int)] rfl hO2 rfl hs2 (by simpa using hlen) (by simp; omega) ?_; intro v3 w3 hO3 hg3 hn3; have HO3 : Hid (In.Ow w1.heap.size w3 v3 (ixI (pickI (ts.take (k + 1))))) := (by show In.Ow _ _ _ _; rw [HSN.out]; unfold ixI; rw [List.map_append]; exact hO3); have HB3 : Hid (Below w1.heap.size w1 w3) := (HB2.out.alloc HB2.out.size _).grown hg3 (by simp; omega) (fun j hj => (hO2.lt hj).1); clear hO3 hg3 hn3)
        exact ⟨⟨k + 1, by go_num, by omega, HO3.out, HB3.out⟩, by simp [intOf]; omega⟩
      · rw [if_neg h0] at HSN
        have h0' : decide (0 < idxL x) = false := by simpa using h0
        rw [h0']
        go_wp2
        exact ⟨⟨k + 1, by go_num, by omega, by rw [HSN.out]; exact HO2.out, HB2.out⟩, by simp [intOf]; omega⟩
    · have hlt' : ¬ (k : Int) < (q : Int) := by omega
      have hkq : ts.take k = ts := List.take_of_length_le (by have := HTL.out; omega)
      rw [hkq] at HO
      have HLN : Hid ((ixI (pickI ts)).length ≤ 256) := by have := pick_len ts; have := HTL.out; show _ ≤ _; simp [ixI]; omega
      obtain ⟨ra, rc, hu3, hrc, -⟩ := HO.out.shape
      subst hu3
      have hle : (ixI (pickI ts)).length = (pickI ts).length := by simp [ixI]
      have HSO : Hid (Calls _ _ _ _ _) := sort_up w1.heap.size ra rc (ixI (pickI ts)) wr HO.out (by unfold ixI; rw [List.pairwise_map]; exact HRS.out.imp (fun {x y} hxy => by omega)) (by have := HLN.out; omega)
      have HLT : Hid (∀ g, (Value.slice ra (pickI ts).length rc).ownBlock = some g → w1.heap.size ≤ g) := fun g hg => (HO.out.lt (g := g) (by rw [hle]; exact hg)).1
      rw [hle] at HSO hrc ⊢
      clear HO HLN hkq
      go_wp2_with fail
      refine HSO.out.mono ?_
      rintro r w4 ⟨rfl, hO4, hg4⟩
      have HO4 : Hid (In.Ow w1.heap.size w4 (.slice ra (pickI ts).length rc) (ixI (pickI ts))) := hO4
      have HB4 : Hid (Below w1.heap.size w1 w4) := HB.out.grown hg4 HB.out.size (fun g hg => HLT.out g hg)
      clear hO4 hg4 HSO HB hle
      go_wp2
      go_ret
      exact ⟨ra, rc, rfl, HO4.out.base HB1.out.size, HB1.out.trans (HB4.out.mono HB1.out.size)⟩
end Go.Proofs.YtadajbdmlmickaaGreatDoor
