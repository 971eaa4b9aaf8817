/-
  A word that holds a text: the document's walk.
-/
import Derived.Test.YtbckogojnjmjcaaGreatDoorW3
namespace Go.Proofs.YtbckogojnjmjcaaGreatDoor
open Go.RowKit Go.Shelf

def okB (s : Bs) : Bool := !s.isEmpty && (s.head? != some 35)
theorem take_snoc {s : Bs} {k : Nat} {c : UInt8} (h : s[k]? = some c) : s.take (k + 1) = s.take k ++ [c] := by rw [List.take_add_one, h]; rfl
theorem quoteL_eq (s : Bs) : quoteL s = if (okB s && s.all bareB) = true then s else 34 :: (flat s ++ [34]) := by
  unfold quoteL okB
  by_cases h : s ≠ [] ∧ s.head? ≠ some 35 ∧ s.all bareB = true
  · rw [if_pos h, if_pos]
    simp [h.1, h.2.1, h.2.2]
  · rw [if_neg h, if_neg]
    intro h2
    simp only [Bool.and_eq_true, Bool.not_eq_true', bne_iff_ne, ne_eq, List.isEmpty_eq_false_iff] at h2
    exact h ⟨h2.1.1, h2.1.2, h2.2⟩
theorem hex_spell {c : UInt8} (h1 : plainB c = false) (h2 : c ≠ 34) (h3 : c ≠ 92) : spell c = [92, 120, hexD (c.toNat / 16), hexD (c.toNat % 16)] := by
  unfold plainB at h1
  have n34 : c.toNat ≠ 34 := fun x => h2 (u8_eq x)
  have n92 : c.toNat ≠ 92 := fun x => h3 (u8_eq x)
  unfold spell
  rw [if_neg (by omega), if_neg]
  rintro ⟨a, b⟩
  simp [a, b, n34, n92] at h1
theorem own_q (w : World) : BOw w.heap.size (w.alloc (.cells #[.int .u8 34] 5)) (.slice (some ⟨w.heap.size, 0, none⟩) 1 1) [34] := by
  refine ⟨rfl, .inr ⟨w.heap.size, 1, #[encB 34], rfl, Nat.le_refl _, heap_alloc_new w _, by simp, by unfold maxLen; decide, by simp, by simp⟩⟩
set_option maxRecDepth 100000 in
set_option maxHeartbeats 8000000 in
theorem rquote_any (s : Bs) (hl : s.length ≤ 1000000) (w : World) : Calls Tryz.prog 13 #[.string ⟨s.toArray⟩] w fun e w' => e = .returned (.string ⟨(quoteL s).toArray⟩) ∧ Below w.heap.size w w' := by
  have hz : (⟨s.toArray⟩ : ByteArray).size = s.length := by show s.toArray.size = _; simp
  have HBA := rbare_any
  have HPL := rplain_any
  have HDG := rdigit_any
  have HQL : Hid (quoteL s = if (okB s && s.all bareB) = true then s else 34 :: (flat s ++ [34])) := quoteL_eq s
  have HFL : Hid (∀ k, (flat (s.take k)).length ≤ 4000000) := fun k => by
    have := (flat_len (s.take k)).2
    have h2 : (s.take k).length ≤ s.length := by rw [List.length_take]; omega
    show _ ≤ _
    omega
  -- ahead of the first loop
  have hst : (s = []) ∨ ∃ (c0 : UInt8) (h0 : 0 < (⟨s.toArray⟩ : ByteArray).size), (⟨s.toArray⟩ : ByteArray)[0]'h0 = c0 ∧ s.isEmpty = false ∧ 0 < s.length ∧ okB s = ((c0.toNat : Int) != 35) := by
    cases s with
    | nil => exact .inl rfl
    | cons c0 s1 =>
      refine .inr ⟨c0, by rw [hz]; simp, rfl, rfl, by simp, ?_⟩
      unfold okB
      rw [Bool.eq_iff_iff]
      simp only [List.isEmpty_cons, Bool.not_false, List.head?_cons, Bool.true_and, bne_iff_ne, ne_eq, Option.some.injEq]
      constructor
      · intro h e; exact h (u8_eq (by show _ = 35; omega))
      · intro h e; exact h (by rw [e]; rfl)
  obtain ⟨okb, HOK⟩ : ∃ okb, Hid (okB s = okb) := ⟨_, rfl⟩
  have HGO : ∀ (L : List Nat), True := fun _ => trivial
  clear HGO
  rcases hst with hnil | ⟨c0, h0, hx0, hem, h0l, hokb⟩
  · have hem : s.isEmpty = true := by rw [hnil]; rfl
    have HOF : Hid (okb = false) := by show _ = _; rw [← HOK.out, hnil]; rfl
    clear hnil
    go_enter Tryz.func13, Tryz.ntmps13
    go_wp2
    go_loopw [3, 4] (fun vo vi wr => ∃ k : Nat, vi = .int .i64 k ∧ k ≤ s.length ∧ vo = .bool (okb && (s.take k).all bareB) ∧ wr = w) (fun _ i _ => s.length - (intOf i).toNat)
    case atStart => exact ⟨0, rfl, by omega, by rw [HOF.out]; rfl, rfl⟩
    case round =>
      obtain ⟨k, rfl, hk, rfl, hwq⟩ := hrel
      cases hwq
      by_cases hlt : k < s.length
      · obtain ⟨c, hck, hdk⟩ := drop_c hlt
        obtain ⟨hkz, hxk⟩ := idx_s hck
        have hcl := c.toNat_lt
        have HBC := HBA c
        have HTK : Hid ((okb && (s.take (k + 1)).all bareB) = ((okb && (s.take k).all bareB) && bareB c)) := by
          show _ = _
          rw [take_snoc hck, List.all_append]
          simp [Bool.and_assoc]
        generalize (okb && (s.take k).all bareB) = b1 at *
        clear hck hdk
        cases b1 with
        | false =>
          go_wp2
          go_roundw
          case rel => exact ⟨k + 1, by simp, by omega, by rw [HTK.out]; rfl, trivial⟩
          case measure => simp [intOf]; omega
        | true =>
          generalize bareB c = b2 at *
          go_wp2_with (go_at_call 36; refine (HBC _).mono ?_; rintro e w7 ⟨rfl, hw⟩; subst w7)
          go_roundw
          case rel => exact ⟨k + 1, by simp, by omega, by rw [HTK.out]; rfl, trivial⟩
          case measure => simp [intOf]; omega
      have hke : k = s.length := by omega
      subst hke
      have hta : s.take s.length = s := List.take_length
      rw [hta]
      cases hall : (okb && s.all bareB) with
      | true =>
        have HQ : Hid (quoteL s = s) := by show _ = _; rw [HQL.out, HOK.out, hall]; rfl
        clear hta
        go_wp2
        go_ret
        exact ⟨by rw [HQ.out]; rfl, Below.refl _ _⟩
      | false =>
        have HQ : Hid (quoteL s = 34 :: (flat s ++ [34])) := by show _ = _; rw [HQL.out, HOK.out, hall]; rfl
        clear hta hall HBA HQL HOK
        go_wp2
        go_loopw [5, 6] (fun vo vi wr2 => ∃ k : Nat, vi = .int .i64 k ∧ k ≤ s.length ∧ Hid (BOw w.heap.size wr2 vo (34 :: flat (s.take k))) ∧ Hid (Below w.heap.size w wr2)) (fun _ i _ => s.length - (intOf i).toNat)
        case atStart => exact ⟨0, rfl, by omega, own_q w, (Below.refl _ _).alloc (Nat.le_refl _) _⟩
        case round =>
          obtain ⟨k, rfl, hk2, HO, HB⟩ := hrel
          have hszr : w.heap.size ≤ wr.heap.size := HB.out.size
          obtain ⟨va, vc, rfl, hc1, hc2⟩ := row_shape HO.out
          have hfl := HFL.out k
          have HNL0 : Hid ((34 :: flat (s.take k)).length = (flat (s.take k)).length + 1) := by show _ = _; simp
          by_cases hlt2 : k < s.length
          · obtain ⟨c, hck, hdk⟩ := drop_c hlt2
            obtain ⟨hkz, hxk⟩ := idx_s hck
            have hcl := c.toNat_lt
            have HTK : Hid (flat (s.take (k + 1)) = flat (s.take k) ++ spell c) := by show _ = _; rw [take_snoc hck, flat_snoc]
            generalize hdn : 34 :: flat (s.take k) = dn at *
            have HDN : Hid (34 :: flat (s.take k) = dn) := hdn
            obtain ⟨n, hn⟩ : ∃ n, dn.length = n := ⟨_, rfl⟩
            have HNL : Hid (dn.length = n) := hn
            have hnb : n ≤ 4000001 := by rw [← hn, HNL0.out]; omega
            rw [hn] at hc1 HO
            rw [hn]
            clear hck hdk hdn hn
            have HPC := HPL c
            cases hpl : plainB c with
            | true =>
              have HSPL : Hid (spell c = [c]) := plain_spell hpl
              rw [hpl] at HPC
              clear hpl
              go_wp2_with (first
                | (go_at_call 42; refine (HPC _).mono ?_; rintro e w7 ⟨rfl, hw⟩; subst w7)
                | (at_builtin; refine wpList_app tyB rfl _ _ rfl w.heap.size (.slice va n vc) n (dn.map encB) ⟨wr.heap.size, 0, none⟩ 1 1 [encB c] rfl (World.ownsRow.alloc (by have := HO.out; unfold BOw at this; rwa [HNL.out] at this) _) rfl rfl (news_at wr #[encB c] 5) (fun u hu => by cases List.mem_singleton.1 hu; rfl) (by omega) (by simp; omega) ?_; intro v6 w6 r1 r2 r3))
              refine ⟨⟨k + 1, by simp, by omega, by show BOw _ _ _ _; unfold BOw; rw [HTK.out, HSPL.out, ← List.cons_append, HDN.out, List.length_append, List.map_append, HNL.out]; exact r1, (HB.out.alloc hszr _).grown r2 (by simp; omega) (fun g hg => (World.ownsRow.lt HO.out g hg).1)⟩, by simp [intOf]; omega⟩
            | false =>
            rw [hpl] at HPC
            by_cases hds : c = 34 ∨ c = 92
            · have HSPL : Hid (spell c = [92, c]) := slash_self hds
              have hdb : ((c.toNat : Int) == 34) = true ∨ (((c.toNat : Int) == 34) = false ∧ ((c.toNat : Int) == 92) = true) := by
                rcases hds with rfl | rfl
                · exact .inl rfl
                · exact .inr ⟨rfl, rfl⟩
              clear hpl hds
              rcases hdb with hd1 | ⟨hd1, hd2⟩
              all_goals (
                go_wp2_with (first
                  | (go_at_call 42; refine (HPC _).mono ?_; rintro e w7 ⟨rfl, hw⟩; subst w7)
                  | (at_builtin; refine wpList_app tyB rfl _ _ rfl w.heap.size (.slice va n vc) n (dn.map encB) ⟨wr.heap.size, 0, none⟩ 2 2 [encB 92, encB c] rfl (World.ownsRow.alloc (by have := HO.out; unfold BOw at this; rwa [HNL.out] at this) _) rfl rfl (news_at wr #[encB 92, encB c] 5) (fun u hu => by simp at hu; rcases hu with rfl | rfl <;> rfl) (by omega) (by simp; omega) ?_; intro v6 w6 r1 r2 r3))
                refine ⟨⟨k + 1, by simp, by omega, by show BOw _ _ _ _; unfold BOw; rw [HTK.out, HSPL.out, ← List.cons_append, HDN.out, List.length_append, List.map_append, HNL.out]; exact r1, (HB.out.alloc hszr _).grown r2 (by simp; omega) (fun g hg => (World.ownsRow.lt HO.out g hg).1)⟩, by simp [intOf]; omega⟩)
            have hn34 : c ≠ 34 := fun h => hds (.inl h)
            have hn92 : c ≠ 92 := fun h => hds (.inr h)
            have hd1 : ((c.toNat : Int) == 34) = false := by rw [beq_eq_false_iff_ne]; intro h; exact hn34 (u8_eq (by show _ = 34; omega))
            have hd2 : ((c.toNat : Int) == 92) = false := by rw [beq_eq_false_iff_ne]; intro h; exact hn92 (u8_eq (by show _ = 92; omega))
            have HSPL : Hid (spell c = [92, 120, hexD (c.toNat / 16), hexD (c.toNat % 16)]) := hex_spell hpl hn34 hn92
            have HD1 := HDG (c.toNat / 16) (by omega)
            have HD2 := HDG (c.toNat % 16) (by omega)
            have hq1 : ((c.toNat / 16 : Nat) : Int) = (c.toNat : Int) / 16 := by omega
            have hq2 : ((c.toNat % 16 : Nat) : Int) = (c.toNat : Int) % 16 := by omega
            have hq3 : (c.toNat : Int).tmod 16 = (c.toNat : Int) % 16 := Int.tmod_eq_emod_of_nonneg (by omega)
            rw [hq1] at HD1
            rw [hq2] at HD2
            clear hq1 hq2
            clear hpl hds hn34 hn92
            go_wp2_with (first
              | (go_at_call 42; refine (HPC _).mono ?_; rintro e w7 ⟨rfl, hw⟩; subst w7)
              | (go_at_call 43; with_reducible refine (HD1 _).mono ?_; rintro e w7 ⟨rfl, hw⟩; subst w7)
              | (go_at_call 43; with_reducible refine (HD2 _).mono ?_; rintro e w7 ⟨rfl, hw⟩; subst w7)
              | (at_builtin; refine wpList_app tyB rfl _ _ rfl w.heap.size (.slice va n vc) n (dn.map encB) ⟨wr.heap.size, 0, none⟩ 4 4 [encB 92, encB 120, encB (hexD (c.toNat / 16)), encB (hexD (c.toNat % 16))] rfl (World.ownsRow.alloc (by have := HO.out; unfold BOw at this; rwa [HNL.out] at this) _) rfl rfl (news_at wr #[encB 92, encB 120, encB (hexD (c.toNat / 16)), encB (hexD (c.toNat % 16))] 5) (fun u hu => by simp at hu; rcases hu with rfl | rfl | rfl | rfl <;> rfl) (by omega) (by simp; omega) ?_; intro v6 w6 r1 r2 r3))
            refine ⟨⟨k + 1, by simp, by omega, by show BOw _ _ _ _; unfold BOw; rw [HTK.out, HSPL.out, ← List.cons_append, HDN.out, List.length_append, List.map_append, HNL.out]; exact r1, (HB.out.alloc hszr _).grown r2 (by simp; omega) (fun g hg => (World.ownsRow.lt HO.out g hg).1)⟩, by simp [intOf]; omega⟩
          have hke2 : k = s.length := by omega
          subst hke2
          have hta2 : s.take s.length = s := List.take_length
          rw [hta2] at HO hc1 hfl HNL0
          rw [hta2]
          generalize hdn : 34 :: flat s = dn at *
          have HDN : Hid (34 :: flat s = dn) := hdn
          obtain ⟨n, hn⟩ : ∃ n, dn.length = n := ⟨_, rfl⟩
          have HNL : Hid (dn.length = n) := hn
          have hnb : n ≤ 4000001 := by rw [← hn, HNL0.out]; omega
          rw [hn] at hc1 HO
          rw [hn]
          clear hta2 hdn hn
          go_wp2_with (at_builtin; refine wpList_app tyB rfl _ _ rfl w.heap.size (.slice va n vc) n (dn.map encB) ⟨wr.heap.size, 0, none⟩ 1 1 [encB 34] rfl (World.ownsRow.alloc (by have := HO.out; unfold BOw at this; rwa [HNL.out] at this) _) rfl rfl (news_at wr #[encB 34] 5) (fun u hu => by cases List.mem_singleton.1 hu; rfl) (by omega) (by simp; omega) ?_; intro v6 w6 r1 r2 r3; have hB6 : BOw w.heap.size w6 v6 (dn ++ [34]) := (by unfold BOw; rw [List.length_append, List.map_append, HNL.out]; exact r1); have hcv := hB6.conv)
          go_ret
          exact ⟨by rw [HQ.out, ← List.cons_append, HDN.out]; rfl, (HB.out.alloc hszr _).grown r2 (by simp; omega) (fun g hg => (World.ownsRow.lt HO.out g hg).1)⟩
  · have hok2 : ((c0.toNat : Int) != 35) = okb := by rw [← hokb]; exact HOK.out
    clear hokb
    have hc0l := c0.toNat_lt
    go_enter Tryz.func13, Tryz.ntmps13
    go_wp2
    go_loopw [3, 4] (fun vo vi wr => ∃ k : Nat, vi = .int .i64 k ∧ k ≤ s.length ∧ vo = .bool (okb && (s.take k).all bareB) ∧ wr = w) (fun _ i _ => s.length - (intOf i).toNat)
    case atStart => exact ⟨0, rfl, by omega, by simp, rfl⟩
    case round =>
      obtain ⟨k, rfl, hk, rfl, hwq⟩ := hrel
      cases hwq
      by_cases hlt : k < s.length
      · obtain ⟨c, hck, hdk⟩ := drop_c hlt
        obtain ⟨hkz, hxk⟩ := idx_s hck
        have hcl := c.toNat_lt
        have HBC := HBA c
        have HTK : Hid ((okb && (s.take (k + 1)).all bareB) = ((okb && (s.take k).all bareB) && bareB c)) := by
          show _ = _
          rw [take_snoc hck, List.all_append]
          simp [Bool.and_assoc]
        generalize (okb && (s.take k).all bareB) = b1 at *
        clear hck hdk
        cases b1 with
        | false =>
          go_wp2
          go_roundw
          case rel => exact ⟨k + 1, by simp, by omega, by rw [HTK.out]; rfl, trivial⟩
          case measure => simp [intOf]; omega
        | true =>
          generalize bareB c = b2 at *
          go_wp2_with (go_at_call 36; refine (HBC _).mono ?_; rintro e w7 ⟨rfl, hw⟩; subst w7)
          go_roundw
          case rel => exact ⟨k + 1, by simp, by omega, by rw [HTK.out]; rfl, trivial⟩
          case measure => simp [intOf]; omega
      have hke : k = s.length := by omega
      subst hke
      have hta : s.take s.length = s := List.take_length
      rw [hta]
      cases hall : (okb && s.all bareB) with
      | true =>
        have HQ : Hid (quoteL s = s) := by show _ = _; rw [HQL.out, HOK.out, hall]; rfl
        clear hta
        go_wp2
        go_ret
        exact ⟨by rw [HQ.out]; rfl, Below.refl _ _⟩
      | false =>
        have HQ : Hid (quoteL s = 34 :: (flat s ++ [34])) := by show _ = _; rw [HQL.out, HOK.out, hall]; rfl
        clear hta hall HBA HQL HOK
        go_wp2
        go_loopw [5, 6] (fun vo vi wr2 => ∃ k : Nat, vi = .int .i64 k ∧ k ≤ s.length ∧ Hid (BOw w.heap.size wr2 vo (34 :: flat (s.take k))) ∧ Hid (Below w.heap.size w wr2)) (fun _ i _ => s.length - (intOf i).toNat)
        case atStart => exact ⟨0, rfl, by omega, own_q w, (Below.refl _ _).alloc (Nat.le_refl _) _⟩
        case round =>
          obtain ⟨k, rfl, hk2, HO, HB⟩ := hrel
          have hszr : w.heap.size ≤ wr.heap.size := HB.out.size
          obtain ⟨va, vc, rfl, hc1, hc2⟩ := row_shape HO.out
          have hfl := HFL.out k
          have HNL0 : Hid ((34 :: flat (s.take k)).length = (flat (s.take k)).length + 1) := by show _ = _; simp
          by_cases hlt2 : k < s.length
          · obtain ⟨c, hck, hdk⟩ := drop_c hlt2
            obtain ⟨hkz, hxk⟩ := idx_s hck
            have hcl := c.toNat_lt
            have HTK : Hid (flat (s.take (k + 1)) = flat (s.take k) ++ spell c) := by show _ = _; rw [take_snoc hck, flat_snoc]
            generalize hdn : 34 :: flat (s.take k) = dn at *
            have HDN : Hid (34 :: flat (s.take k) = dn) := hdn
            obtain ⟨n, hn⟩ : ∃ n, dn.length = n := ⟨_, rfl⟩
            have HNL : Hid (dn.length = n) := hn
            have hnb : n ≤ 4000001 := by rw [← hn, HNL0.out]; omega
            rw [hn] at hc1 HO
            rw [hn]
            clear hck hdk hdn hn
            have HPC := HPL c
            cases hpl : plainB c with
            | true =>
              have HSPL : Hid (spell c = [c]) := plain_spell hpl
              rw [hpl] at HPC
              clear hpl
              go_wp2_with (first
                | (go_at_call 42; refine (HPC _).mono ?_; rintro e w7 ⟨rfl, hw⟩; subst w7)
                | (at_builtin; refine wpList_app tyB rfl _ _ rfl w.heap.size (.slice va n vc) n (dn.map encB) ⟨wr.heap.size, 0, none⟩ 1 1 [encB c] rfl (World.ownsRow.alloc (by have := HO.out; unfold BOw at this; rwa [HNL.out] at this) _) rfl rfl (news_at wr #[encB c] 5) (fun u hu => by cases List.mem_singleton.1 hu; rfl) (by omega) (by simp; omega) ?_; intro v6 w6 r1 r2 r3))
              refine ⟨⟨k + 1, by simp, by omega, by show BOw _ _ _ _; unfold BOw; rw [HTK.out, HSPL.out, ← List.cons_append, HDN.out, List.length_append, List.map_append, HNL.out]; exact r1, (HB.out.alloc hszr _).grown r2 (by simp; omega) (fun g hg => (World.ownsRow.lt HO.out g hg).1)⟩, by simp [intOf]; omega⟩
            | false =>
            rw [hpl] at HPC
            by_cases hds : c = 34 ∨ c = 92
            · have HSPL : Hid (spell c = [92, c]) := slash_self hds
              have hdb : ((c.toNat : Int) == 34) = true ∨ (((c.toNat : Int) == 34) = false ∧ ((c.toNat : Int) == 92) = true) := by
                rcases hds with rfl | rfl
                · exact .inl rfl
                · exact .inr ⟨rfl, rfl⟩
              clear hpl hds
              rcases hdb with hd1 | ⟨hd1, hd2⟩
              all_goals (
                go_wp2_with (first
                  | (go_at_call 42; refine (HPC _).mono ?_; rintro e w7 ⟨rfl, hw⟩; subst w7)
                  | (at_builtin; refine wpList_app tyB rfl _ _ rfl w.heap.size (.slice va n vc) n (dn.map encB) ⟨wr.heap.size, 0, none⟩ 2 2 [encB 92, encB c] rfl (World.ownsRow.alloc (by have := HO.out; unfold BOw at this; rwa [HNL.out] at this) _) rfl rfl (news_at wr #[encB 92, encB c] 5) (fun u hu => by simp at hu; rcases hu with rfl | rfl <;> rfl) (by omega) (by simp; omega) ?_; intro v6 w6 r1 r2 r3))
                refine ⟨⟨k + 1, by simp, by omega, by show BOw _ _ _ _; unfold BOw; rw [HTK.out, HSPL.out, ← List.cons_append, HDN.out, List.length_append, List.map_append, HNL.out]; exact r1, (HB.out.alloc hszr _).grown r2 (by simp; omega) (fun g hg => (World.ownsRow.lt HO.out g hg).1)⟩, by simp [intOf]; omega⟩)
            have hn34 : c ≠ 34 := fun h => hds (.inl h)
            have hn92 : c ≠ 92 := fun h => hds (.inr h)
            have hd1 : ((c.toNat : Int) == 34) = false := by rw [beq_eq_false_iff_ne]; intro h; exact hn34 (u8_eq (by show _ = 34; omega))
            have hd2 : ((c.toNat : Int) == 92) = false := by rw [beq_eq_false_iff_ne]; intro h; exact hn92 (u8_eq (by show _ = 92; omega))
            have HSPL : Hid (spell c = [92, 120, hexD (c.toNat / 16), hexD (c.toNat % 16)]) := hex_spell hpl hn34 hn92
            have HD1 := HDG (c.toNat / 16) (by omega)
            have HD2 := HDG (c.toNat % 16) (by omega)
            have hq1 : ((c.toNat / 16 : Nat) : Int) = (c.toNat : Int) / 16 := by omega
            have hq2 : ((c.toNat % 16 : Nat) : Int) = (c.toNat : Int) % 16 := by omega
            have hq3 : (c.toNat : Int).tmod 16 = (c.toNat : Int) % 16 := Int.tmod_eq_emod_of_nonneg (by omega)
            rw [hq1] at HD1
            rw [hq2] at HD2
            clear hq1 hq2
            clear hpl hds hn34 hn92
            go_wp2_with (first
              | (go_at_call 42; refine (HPC _).mono ?_; rintro e w7 ⟨rfl, hw⟩; subst w7)
              | (go_at_call 43; with_reducible refine (HD1 _).mono ?_; rintro e w7 ⟨rfl, hw⟩; subst w7)
              | (go_at_call 43; with_reducible refine (HD2 _).mono ?_; rintro e w7 ⟨rfl, hw⟩; subst w7)
              | (at_builtin; refine wpList_app tyB rfl _ _ rfl w.heap.size (.slice va n vc) n (dn.map encB) ⟨wr.heap.size, 0, none⟩ 4 4 [encB 92, encB 120, encB (hexD (c.toNat / 16)), encB (hexD (c.toNat % 16))] rfl (World.ownsRow.alloc (by have := HO.out; unfold BOw at this; rwa [HNL.out] at this) _) rfl rfl (news_at wr #[encB 92, encB 120, encB (hexD (c.toNat / 16)), encB (hexD (c.toNat % 16))] 5) (fun u hu => by simp at hu; rcases hu with rfl | rfl | rfl | rfl <;> rfl) (by omega) (by simp; omega) ?_; intro v6 w6 r1 r2 r3))
            refine ⟨⟨k + 1, by simp, by omega, by show BOw _ _ _ _; unfold BOw; rw [HTK.out, HSPL.out, ← List.cons_append, HDN.out, List.length_append, List.map_append, HNL.out]; exact r1, (HB.out.alloc hszr _).grown r2 (by simp; omega) (fun g hg => (World.ownsRow.lt HO.out g hg).1)⟩, by simp [intOf]; omega⟩
          have hke2 : k = s.length := by omega
          subst hke2
          have hta2 : s.take s.length = s := List.take_length
          rw [hta2] at HO hc1 hfl HNL0
          rw [hta2]
          generalize hdn : 34 :: flat s = dn at *
          have HDN : Hid (34 :: flat s = dn) := hdn
          obtain ⟨n, hn⟩ : ∃ n, dn.length = n := ⟨_, rfl⟩
          have HNL : Hid (dn.length = n) := hn
          have hnb : n ≤ 4000001 := by rw [← hn, HNL0.out]; omega
          rw [hn] at hc1 HO
          rw [hn]
          clear hta2 hdn hn
          go_wp2_with (at_builtin; refine wpList_app tyB rfl _ _ rfl w.heap.size (.slice va n vc) n (dn.map encB) ⟨wr.heap.size, 0, none⟩ 1 1 [encB 34] rfl (World.ownsRow.alloc (by have := HO.out; unfold BOw at this; rwa [HNL.out] at this) _) rfl rfl (news_at wr #[encB 34] 5) (fun u hu => by cases List.mem_singleton.1 hu; rfl) (by omega) (by simp; omega) ?_; intro v6 w6 r1 r2 r3; have hB6 : BOw w.heap.size w6 v6 (dn ++ [34]) := (by unfold BOw; rw [List.length_append, List.map_append, HNL.out]; exact r1); have hcv := hB6.conv)
          go_ret
          exact ⟨by rw [HQ.out, ← List.cons_append, HDN.out]; rfl, (HB.out.alloc hszr _).grown r2 (by simp; omega) (fun g hg => (World.ownsRow.lt HO.out g hg).1)⟩
end Go.Proofs.YtbckogojnjmjcaaGreatDoor
